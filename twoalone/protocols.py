"""Protocols: what each hand tells by what it knows, and where that is not let."""

from twoalone.checks import HANDS, is_whole_within
from twoalone.errors import NoInputs, NoProtocol
from twoalone.places import LAST_PLACES, place
from twoalone.tasks import is_output, is_pair
from twoalone.weavings import MOST_ROUNDS, known


def is_row(thing, many):
    """Whether this is a list of so many outputs, in any order."""
    return isinstance(thing, list) and len(thing) == many and all([is_output(x) for x in thing])


def is_chosen(task, thing):
    """Whether this has for each hand, and each of its inputs, an output."""
    return (
        isinstance(thing, list)
        and len(thing) == 2
        and all([is_row(thing[hand], task.inputs(hand)) for hand in HANDS])
    )


def is_walks(task, thing, many):
    """Whether this has for just the pairs of inputs so many outputs each."""
    return (
        isinstance(thing, dict)
        and len(thing) == len(task.both)
        and all([is_pair(task, pair) and is_row(row, many) for pair, row in thing.items()])
    )


def is_protocol(task, thing):
    return (
        isinstance(thing, tuple)
        and len(thing) == 3
        and is_whole_within(thing[0], 0, MOST_ROUNDS)
        and is_chosen(task, thing[1])
        and is_walks(task, thing[2], LAST_PLACES[thing[0]] + 1)
    )


def output_of(protocol, inputs, hand, thing):
    """Tell what this hand tells that knows this thing, None where it stopped ahead."""
    if thing is None:
        return None
    rounds, alone, walks = protocol
    at = place(thing, hand)
    # At both ends stands who saw nothing, and does not know for which pair it would tell.
    if at == 0 or at == LAST_PLACES[rounds]:
        return alone[hand][inputs[hand]]
    return walks[inputs][at]


def tell(task, protocol, inputs, weaving):
    """Tell what each hand tells, None of one that stopped ahead."""
    if not is_protocol(task, protocol):
        raise NoProtocol("this is no protocol of the form for this task")
    if not is_pair(task, inputs):
        raise NoInputs("this is no pair of inputs of the task")
    knows = known(inputs, weaving, rounds=protocol[0])
    return tuple([output_of(protocol, inputs, hand, knows[hand]) for hand in HANDS])


def alone_fault(task, alone):
    """Tell the first output that is not let alone, None where all are."""
    for hand in HANDS:
        for at in range(task.inputs(hand)):
            if alone[hand][at] not in task.alone[hand][at]:
                return ("alone", hand, at)
    return None


def outputs_at(row, at):
    """Tell hand 0's output and hand 1's, of the two that stand here and next in a walk."""
    return (row[at], row[at + 1]) if at % 2 == 0 else (row[at + 1], row[at])


def walk_fault(task, alone, pair, row):
    """Tell the first fault of this pair's walk, None where there is none."""
    if row[0] != alone[0][pair[0]] or row[-1] != alone[1][pair[1]]:
        return ("ends", pair)
    let = set(task.both[pair])
    for at in range(len(row) - 1):
        if outputs_at(row, at) not in let:
            return ("step", pair, at)
    return None


def protocol_fault(task, thing):
    """Tell the first fault of anything as a protocol of this task, None where it has none."""
    if not is_protocol(task, thing):
        return ("form",)
    fault = alone_fault(task, thing[1])
    if fault is not None:
        return fault
    for pair in task.pairs():
        fault = walk_fault(task, thing[1], pair, thing[2][pair])
        if fault is not None:
            return fault
    return None
