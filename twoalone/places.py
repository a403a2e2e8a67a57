"""Places: where each thing that a hand may know stands, in a row from 0 to 3 ** rounds."""

from twoalone.checks import is_hand, is_whole
from twoalone.errors import NoHand, NoKnown
from twoalone.weavings import MOST_ROUNDS

# 3 ** rounds, for each number of rounds.
LAST_PLACES = (1, 3, 9, 27, 81, 243)


def rounds_behind(thing):
    """Tell behind how many rounds this would be known, five if behind more."""
    rounds = 0
    while rounds < MOST_ROUNDS and isinstance(thing, tuple) and len(thing) == 2:
        thing = thing[0]
        rounds += 1
    return rounds


def agrees(one, other):
    """Whether these are not two inputs that differ; None is an input that was not met."""
    return one is None or other is None or one == other


def met(own, other):
    """Tell place and inputs of a hand that saw what stands thus, None where it never does."""
    at, own0, own1 = own
    seen_at, other0, other1 = other
    if abs(at - seen_at) != 1 or not agrees(own0, other0) or not agrees(own1, other1):
        return None
    return (
        3 * at + 2 * (seen_at - at),
        other0 if own0 is None else own0,
        other1 if own1 is None else own1,
    )


def standing(thing, hand, rounds):
    """Tell the place of this and the inputs of both hands in it, None where no weaving brings it."""
    if rounds == 0:
        if not is_whole(thing) or thing < 0:
            return None
        return (0, thing, None) if hand == 0 else (1, None, thing)
    if not isinstance(thing, tuple) or len(thing) != 2:
        return None
    own = standing(thing[0], hand, rounds - 1)
    if own is None:
        return None
    if thing[1] is None:
        return (3 * own[0], own[1], own[2])
    other = standing(thing[1], 1 - hand, rounds - 1)
    return None if other is None else met(own, other)


def place(known, hand):
    """Tell the place of what this hand knows."""
    if not is_hand(hand):
        raise NoHand("a hand is 0 or 1")
    stands = standing(known, hand, rounds_behind(known))
    if stands is None:
        raise NoKnown("this hand knows this behind no weaving of at most five rounds")
    return stands[0]
