"""Weavings: in which order the hands do their steps, and what they know behind them."""

from twoalone.checks import HANDS, is_hand, is_whole, is_whole_within
from twoalone.errors import NoInputs, NoRounds, NoWeaving

MOST_ROUNDS = 5
MOST_WOVEN = 3
STEPS = 2


def is_inputs(thing):
    return isinstance(thing, tuple) and len(thing) == 2 and all([is_whole(a) and a >= 0 for a in thing])


def is_weaving(thing, rounds):
    """Whether this is a list of hands, with no more steps of each than these rounds have."""
    return (
        isinstance(thing, list)
        and all([is_hand(hand) for hand in thing])
        and all([thing.count(hand) <= STEPS * rounds for hand in HANDS])
    )


def put_in(cells, at):
    """Tell what stands in the cell of this round, None where nothing was put there."""
    return cells[at] if at < len(cells) else None


def known(inputs, weaving, *, rounds):
    """Tell what each hand knows behind all its steps, None of one that stopped ahead."""
    if not is_whole_within(rounds, 0, MOST_ROUNDS):
        raise NoRounds("a number of rounds is from 0 to 5 here")
    if not is_inputs(inputs):
        raise NoInputs("inputs are a tuple of two whole numbers from 0 on")
    if not is_weaving(weaving, rounds):
        raise NoWeaving("a weaving is a list of hands, each at most twice a round")
    knows = list(inputs)
    cells = [[], []]
    looks = [0, 0]
    for hand in weaving:
        # A hand has put more often than it has looked just where its next step is to look.
        if len(cells[hand]) > looks[hand]:
            knows[hand] = (knows[hand], put_in(cells[1 - hand], looks[hand]))
            looks[hand] += 1
        else:
            cells[hand].append(knows[hand])
    return [knows[hand] if looks[hand] == rounds else None for hand in HANDS]


def weavings(rounds):
    """Tell all weavings in which nobody stops, sorted."""
    if not is_whole_within(rounds, 0, MOST_WOVEN):
        raise NoRounds("a number of rounds is from 0 to 3 here")
    steps = STEPS * rounds
    woven = [[]]
    # Sorted lists of one length, each grown by the hands in their order, come out sorted again.
    while len(woven[0]) < steps * len(HANDS):
        woven = [begun + [hand] for begun in woven for hand in HANDS if begun.count(hand) < steps]
    return woven
