"""Made of another: how one task is done by one go at another one.

Within this file a spot is (hand, input, output): the hand's input in the task, and what the other
task's hand tells for what is given.
"""

from twoalone.bars import Search
from twoalone.checks import HANDS, is_whole, is_whole_within
from twoalone.errors import NoMade, NoProtocol, TooMany
from twoalone.protocols import protocol_fault
from twoalone.tasks import is_output

MOST_WAYS = 4000


def given_pair(given, pair):
    """Tell what both hands are given that have this pair of inputs."""
    return (given[0][pair[0]], given[1][pair[1]])


def lets(other, hand, at):
    """Tell what the other task lets this hand tell for this input, alone or in some pair of inputs, rising."""
    found = {output: True for output in other.alone[hand][at]}
    for pair, let in other.both.items():
        if pair[hand] == at:
            for outputs in let:
                found[outputs[hand]] = True
    return sorted(found)


def asked_of(other, hand, row):
    """Tell what has to be told by a hand that is given this row: pairs of an input and an output."""
    return [(at, output) for at in range(len(row)) for output in lets(other, hand, row[at])]


def is_given(task, other, thing):
    """Whether this has for each hand, and each of its inputs, an input of the other task."""
    return (
        isinstance(thing, list)
        and len(thing) == 2
        and all([isinstance(row, list) for row in thing])
        and all([len(thing[hand]) == task.inputs(hand) for hand in HANDS])
        and all([is_whole_within(at, 0, other.inputs(hand) - 1) for hand in HANDS for at in thing[hand]])
    )


def is_asked(thing, asked):
    """Whether this is one of the pairs asked for; anything at all may be a key of what is handed in."""
    return isinstance(thing, tuple) and all([is_whole(x) for x in thing]) and thing in asked


def is_told(thing, asked):
    """Whether this has an output for just the pairs asked for."""
    return (
        isinstance(thing, dict)
        and len(thing) == len(asked)
        and all([is_asked(key, asked) and is_output(output) for key, output in thing.items()])
    )


def is_made(task, other, thing):
    """Whether this has the form of what makes the task of the other one."""
    if not isinstance(thing, tuple) or len(thing) != 2 or not is_given(task, other, thing[0]):
        return False
    given, told = thing
    return (
        isinstance(told, list)
        and len(told) == 2
        and all([is_told(told[hand], asked_of(other, hand, given[hand])) for hand in HANDS])
    )


def pair_fault(task, other, given):
    """Tell the first pair for which what is given is no pair of the other task's, None where there is none."""
    for pair in task.pairs():
        if given_pair(given, pair) not in other.both:
            return ("pair", pair)
    return None


def told_alone_fault(task, other, given, told):
    """Tell the first output let alone that leads to one not let, None where there is none."""
    for hand in HANDS:
        for at in range(task.inputs(hand)):
            for output in other.alone[hand][given[hand][at]]:
                if told[hand][(at, output)] not in task.alone[hand][at]:
                    return ("alone", hand, at, output)
    return None


def told_both_fault(task, other, given, told):
    """Tell the first pair, and outputs let there, that lead to ones not let, None where there is none."""
    for pair in task.pairs():
        for outputs in other.both[given_pair(given, pair)]:
            leads_to = tuple([told[hand][(pair[hand], outputs[hand])] for hand in HANDS])
            if leads_to not in task.both[pair]:
                return ("both", pair, outputs)
    return None


def made_fault(task, other, thing):
    """Tell the first fault of anything as what makes the task of the other one, None where it has none."""
    if not is_made(task, other, thing):
        return ("form",)
    given, told = thing
    fault = pair_fault(task, other, given)
    if fault is None:
        fault = told_alone_fault(task, other, given, told)
    if fault is None:
        fault = told_both_fault(task, other, given, told)
    return fault


def ways_to_give(task, other):
    """Tell how many ways there are to give, for each input of each hand, an input of the other task."""
    many = 1
    for hand in HANDS:
        for at in range(task.inputs(hand)):
            many *= other.inputs(hand)
    return many


def rows_to_give(many, inputs):
    """Tell all rows of so many of so many inputs."""
    rows = [[]]
    for at in range(many):
        rows = [row + [given] for row in rows for given in range(inputs)]
    return rows


def fits_of(let):
    """Tell for each output the ones that are let with it."""
    fits = {}
    for output, other in let:
        row = fits.setdefault(output, {})
        row[other] = True
    return fits


def bonds_for(task, other, given):
    """Tell for each spot that must go with others a list of them, with what is let for both."""
    bonds = {}
    for pair, let in task.both.items():
        from_ours, from_theirs = fits_of(let), fits_of([(y, x) for x, y in let])
        for x, y in other.both[given_pair(given, pair)]:
            ours, theirs = (0, pair[0], x), (1, pair[1], y)
            bonds.setdefault(ours, []).append((theirs, from_ours))
            bonds.setdefault(theirs, []).append((ours, from_theirs))
    return bonds


def outputs_for(task, other, given, spot, bonds):
    """Tell what may be told at this spot, of what each of its bonds lets go with something."""
    hand, at, output = spot
    is_alone = output in other.alone[hand][given[hand][at]]
    outputs = task.alone[hand][at] if is_alone else sorted(bonds[0][1])
    return [told for told in outputs if all([told in fits for to_spot, fits in bonds])]


def told_by(choice, task, other, given):
    """Tell the outputs chosen at the spots, and any others where nothing has to go with them."""
    told = [{}, {}]
    for hand in HANDS:
        for at, output in asked_of(other, hand, given[hand]):
            # Where nothing was to be chosen, what is let alone will do.
            told[hand][(at, output)] = choice.get((hand, at, output), task.alone[hand][at][0])
    return told


def told_for(task, other, given):
    """Tell what to tell for what is given, None where nothing does the task."""
    bonds = bonds_for(task, other, given)
    outputs = {spot: outputs_for(task, other, given, spot, bonds[spot]) for spot in bonds}
    choice = Search(outputs, bonds).begun()[0]
    return None if choice is None else told_by(choice, task, other, given)


def made_of(task, other):
    """Tell a way to make the task of the other one, None where there is none."""
    many = ways_to_give(task, other)
    if many > MOST_WAYS:
        raise TooMany(many)
    for ours in rows_to_give(task.inputs(0), other.inputs(0)):
        for theirs in rows_to_give(task.inputs(1), other.inputs(1)):
            given = [list(ours), list(theirs)]
            told = None if pair_fault(task, other, given) is not None else told_for(task, other, given)
            if told is not None:
                return (given, told)
    return None


def made_walk(told, pair, row):
    """Tell the walk of the task's pair, of the other task's walk for what is given."""
    return [told[at % 2][(pair[at % 2], row[at])] for at in range(len(row))]


def made_protocol(task, other, thing, protocol):
    """Tell the protocol of the task in which each hand tells what it is told to tell by the other task's protocol."""
    if made_fault(task, other, thing) is not None:
        raise NoMade("this does not make the task of the other one")
    if protocol_fault(other, protocol) is not None:
        raise NoProtocol("this is no protocol of the other task without fault")
    given, told = thing
    rounds, alone, walks = protocol
    made = [
        [told[hand][(at, alone[hand][given[hand][at]])] for at in range(task.inputs(hand))] for hand in HANDS
    ]
    return (rounds, made, {pair: made_walk(told, pair, walks[given_pair(given, pair)]) for pair in task.pairs()})
