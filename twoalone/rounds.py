"""Least rounds: by which choices of outputs there is a protocol, and of how few rounds."""

from twoalone.bars import aways, bar, most_ties, searched
from twoalone.checks import HANDS
from twoalone.errors import Barred, NoChoice
from twoalone.places import LAST_PLACES
from twoalone.protocols import alone_fault, is_chosen
from twoalone.weavings import MOST_ROUNDS
from twoalone.webs import far, walk


def is_choice(task, thing):
    """Whether this has for each hand, and each of its inputs, an output let alone."""
    return is_chosen(task, thing) and alone_fault(task, thing) is None


def need(task, choice):
    """Tell how many ties a walk must have by this choice, for the pair that needs most; None where one has no walk."""
    if not is_choice(task, choice):
        raise NoChoice("a choice has an output let alone for each input of each hand")
    ways = [far(task, pair, choice[0][pair[0]], choice[1][pair[1]]) for pair in task.pairs()]
    return None if None in ways else max(ways)


def choice_for(task, away, most):
    """Tell a choice with no need of more than most ties, None where there is none."""
    spots = searched(task, away, most)[0]
    if spots is None:
        return None
    return [[spots[(hand, at)] for at in range(task.inputs(hand))] for hand in HANDS]


def least_choice(task):
    """Tell the least number of rounds and a choice for it, (None, None) where there is none of any."""
    away = aways(task)
    least = (None, None)
    # Where any number of rounds will do, the greatest one will: no way through 128 points has more ties.
    for rounds in range(MOST_ROUNDS, -1, -1):
        choice = choice_for(task, away, LAST_PLACES[rounds])
        if choice is None:
            break
        least = (rounds, choice)
    return least


def least_rounds(task):
    """Tell the least number of rounds of a protocol, None where there is none of any rounds."""
    return least_choice(task)[0]


def protocol_by(task, rounds, choice):
    """Tell the protocol of so many rounds in which who met nobody tells what is chosen."""
    walks = {}
    for pair in task.pairs():
        ends = (choice[0][pair[0]], choice[1][pair[1]])
        walks[pair] = walk(task, pair, ends[0], ends[1], many=LAST_PLACES[rounds])
    return (rounds, choice, walks)


def protocol(task, *, rounds=None):
    """Tell a protocol without fault of so many rounds, of the least where that is left out."""
    most = most_ties(rounds)
    if rounds is None:
        many, choice = least_choice(task)
    else:
        many, choice = rounds, choice_for(task, aways(task), most)
    if choice is None:
        raise Barred(bar(task, rounds=rounds))
    return protocol_by(task, many, choice)
