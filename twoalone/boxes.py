"""Boxes: what two hands can do with a box that the first one wins."""

from twoalone.checks import HANDS, is_hand, is_whole_within
from twoalone.errors import NoInputs, NoProtocol, NoWeaving
from twoalone.protocols import alone_fault, is_chosen
from twoalone.tasks import is_output, is_pair

# Who has put its input and gone to the box has won it, if the other one has not done so ahead.
STEPS_TO_BOX = 2
STEPS_OF_LOSER = 3


def is_answers(task, thing):
    """Whether this has for just the pairs of inputs an output."""
    return (
        isinstance(thing, dict)
        and len(thing) == len(task.both)
        and all([is_pair(task, pair) and is_output(output) for pair, output in thing.items()])
    )


def is_boxed(task, thing):
    """Whether this is a boxed protocol of the form for this task."""
    return (
        isinstance(thing, tuple)
        and len(thing) == 2
        and is_chosen(task, thing[0])
        and isinstance(thing[1], list)
        and len(thing[1]) == 2
        and all([is_answers(task, answers) for answers in thing[1]])
    )


def winner(weaving):
    """Tell which hand comes to the box first, None where nobody does."""
    steps = [0, 0]
    for hand in weaving:
        steps[hand] += 1
        if steps[hand] == STEPS_TO_BOX:
            return hand
    return None


def is_boxed_weaving(thing):
    """Whether this is a list of hands, with no more steps of each than it has."""
    if not isinstance(thing, list) or not all([is_hand(hand) for hand in thing]):
        return False
    if max([thing.count(hand) for hand in HANDS]) > STEPS_OF_LOSER:
        return False
    won = winner(thing)
    return won is None or thing.count(won) == STEPS_TO_BOX


def tell_boxed(task, boxed, inputs, weaving):
    """Tell what each hand tells, None of one that stopped ahead."""
    if not is_boxed(task, boxed):
        raise NoProtocol("this is no boxed protocol of the form for this task")
    if not is_pair(task, inputs):
        raise NoInputs("this is no pair of inputs of the task")
    if not is_boxed_weaving(weaving):
        raise NoWeaving("a weaving is a list of hands, each at most three times, at most twice who won")
    alone, answers = boxed
    won = winner(weaving)
    told = [None, None]
    for hand in HANDS:
        if hand == won:
            told[hand] = alone[hand][inputs[hand]]
        elif weaving.count(hand) == STEPS_OF_LOSER:
            told[hand] = answers[hand][inputs]
    return tuple(told)


def is_answered(task, pair, hand, output):
    """Whether the other hand has something to tell that is let with this hand's output."""
    return output in [outputs[hand] for outputs in task.both[pair]]


def at_odds(task, hand, at, output):
    """Tell the first input of the other hand with which nothing is let that has this output, None where none is."""
    for pair in task.pairs():
        if pair[hand] == at and not is_answered(task, pair, hand, output):
            return pair[1 - hand]
    return None


def answers_to(task, hand, alone):
    """Tell for each pair what this hand may tell that lost, where the other one tells what alone has."""
    answers = {}
    for pair in task.pairs():
        won = alone[1 - hand][pair[1 - hand]]
        answers[pair] = [outputs[hand] for outputs in task.both[pair] if outputs[1 - hand] == won][0]
    return answers


def boxed(task):
    """Tell a boxed protocol, or an input of which each output let alone is at odds with some other input."""
    alone = [[], []]
    for hand in HANDS:
        for at in range(task.inputs(hand)):
            outputs = task.alone[hand][at]
            others = [at_odds(task, hand, at, output) for output in outputs]
            if None not in others:
                return ("bar", (hand, at, others))
            alone[hand].append(outputs[others.index(None)])
    return ("boxed", (alone, [answers_to(task, 0, alone), answers_to(task, 1, alone)]))


def answers_fault(task, hand, alone, answers):
    """Tell the first pair in which this hand tells what isn't let when it lost, None where there is none."""
    for pair in task.pairs():
        told = [answers[pair], answers[pair]]
        told[1 - hand] = alone[1 - hand][pair[1 - hand]]
        if tuple(told) not in task.both[pair]:
            return ("answer", hand, pair)
    return None


def boxed_fault(task, thing):
    """Tell the first fault of anything as a boxed protocol of this task, None where it has none."""
    if not is_boxed(task, thing):
        return ("form",)
    alone, answers = thing
    fault = alone_fault(task, alone)
    for hand in HANDS:
        if fault is None:
            fault = answers_fault(task, hand, alone, answers[hand])
    return fault


def is_boxed_bar(task, thing):
    """Whether this has an input, and for each output let alone for it an input of the other hand."""
    if not isinstance(thing, tuple) or len(thing) != 3 or not is_hand(thing[0]):
        return False
    hand, at, others = thing
    return (
        is_whole_within(at, 0, task.inputs(hand) - 1)
        and isinstance(others, list)
        and len(others) == len(task.alone[hand][at])
        and all([is_whole_within(other, 0, task.inputs(1 - hand) - 1) for other in others])
    )


def boxed_bar_fault(task, thing):
    """Tell the first fault of anything as a bar against boxed protocols, None where it has none."""
    if not is_boxed_bar(task, thing):
        return ("form",)
    hand, at, others = thing
    outputs = task.alone[hand][at]
    for k in range(len(others)):
        pair = (at, others[k]) if hand == 0 else (others[k], at)
        if pair not in task.both or is_answered(task, pair, hand, outputs[k]):
            return ("input", k)
    return None
