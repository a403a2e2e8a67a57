"""Tasks: what each hand may tell alone, and what both may tell."""

from twoalone.checks import HANDS, is_hand, is_rising, is_whole_within
from twoalone.errors import NoHand, NoJoint, NoTask

MOST_OUTPUT = 63
MOST_JOINED = 7
MOST_NAMED = 7


def is_output(thing):
    return is_whole_within(thing, 0, MOST_OUTPUT)


def is_outputs(thing):
    """Whether these are outputs, one at least, rising."""
    return isinstance(thing, list) and len(thing) > 0 and all([is_output(x) for x in thing]) and is_rising(thing)


def is_rows(thing):
    """Whether these are the outputs let alone of one hand, input by input, one at least."""
    return isinstance(thing, list) and len(thing) > 0 and all([is_outputs(outputs) for outputs in thing])


def is_alone(thing):
    return isinstance(thing, list) and len(thing) == 2 and all([is_rows(rows) for rows in thing])


def is_output_pair(thing):
    return isinstance(thing, tuple) and len(thing) == 2 and all([is_output(x) for x in thing])


def is_let(thing):
    """Whether these are pairs of outputs, one at least, sorted, each once."""
    return isinstance(thing, list) and len(thing) > 0 and all([is_output_pair(x) for x in thing]) and is_rising(thing)


def is_input_pair(thing, alone):
    return (
        isinstance(thing, tuple)
        and len(thing) == 2
        and all([is_whole_within(thing[hand], 0, len(alone[hand]) - 1) for hand in HANDS])
    )


def each_comes(both, alone, hand):
    """Whether each input of this hand stands in a pair of both."""
    return len({pair[hand] for pair in both}) == len(alone[hand])


def is_both(thing, alone):
    return (
        isinstance(thing, dict)
        and all([is_input_pair(pair, alone) and is_let(let) for pair, let in thing.items()])
        and all([each_comes(thing, alone, hand) for hand in HANDS])
    )


class Task:
    """A task of two hands.

    alone holds for each hand, and each of its inputs, the outputs let if it meets nobody;
    both holds for each pair of inputs that comes the pairs of outputs let.
    """

    def __init__(self, alone, both):
        if not is_alone(alone):
            raise NoTask("alone")
        if not is_both(both, alone):
            raise NoTask("both")
        # Copied down to the lists within, so that no one else's change reaches this task.
        self.alone = [[list(outputs) for outputs in rows] for rows in alone]
        self.both = {pair: list(let) for pair, let in both.items()}

    def __eq__(self, other):
        return isinstance(other, Task) and self.alone == other.alone and self.both == other.both

    def inputs(self, hand):
        """Tell how many inputs this hand has."""
        if not is_hand(hand):
            raise NoHand("a hand is 0 or 1")
        return len(self.alone[hand])

    def pairs(self):
        """Tell the pairs of inputs that come, sorted."""
        return sorted(self.both)


def is_pair(task, thing):
    """Whether this is a pair of inputs of the task that comes."""
    return is_input_pair(thing, task.alone) and thing in task.both


def swapped(task):
    """Tell the task with the hands exchanged."""
    alone = [task.alone[1], task.alone[0]]
    both = {(b, a): sorted([(y, x) for x, y in let]) for (a, b), let in task.both.items()}
    return Task(alone, both)


def greatest_output(task):
    """Tell the greatest output that stands anywhere in the task."""
    alone = [x for rows in task.alone for outputs in rows for x in outputs]
    both = [x for let in task.both.values() for pair in let for x in pair]
    return max(alone + both)


def joint_output(x, y):
    return (MOST_JOINED + 1) * x + y


def joint_rows(rows, others):
    """Tell what one hand may tell alone, when its rows in both tasks are these."""
    return [[joint_output(x, y) for x in outputs for y in more] for outputs in rows for more in others]


def joint_let(let, more):
    """Tell the pairs of outputs let for both at once, where these are let in each."""
    pairs = [(joint_output(x0, y0), joint_output(x1, y1)) for x0, x1 in let for y0, y1 in more]
    return sorted(pairs)


def joint(task, other):
    """Tell the task in which both are done at once."""
    if max(greatest_output(task), greatest_output(other)) > MOST_JOINED:
        raise NoJoint("an output is greater than 7")
    alone = [joint_rows(task.alone[hand], other.alone[hand]) for hand in HANDS]
    width0, width1 = other.inputs(0), other.inputs(1)
    both = {
        (a0 * width0 + b0, a1 * width1 + b1): joint_let(let, more)
        for (a0, a1), let in task.both.items()
        for (b0, b1), more in other.both.items()
    }
    return Task(alone, both)


def agreement():
    """Tell the task in which both tell the same, one of the inputs."""
    either = [(0, 0), (1, 1)]
    both = {(0, 0): [(0, 0)], (0, 1): either, (1, 0): either, (1, 1): [(1, 1)]}
    return Task([[[0], [1]], [[0], [1]]], both)


def near(n):
    """Tell the task in which both come as near as 1, from ends that are n apart."""
    if not is_whole_within(n, 1, MOST_NAMED):
        raise NoTask("near")
    close = [(x, y) for x in range(n + 1) for y in range(n + 1) if abs(x - y) <= 1]
    both = {(0, 0): [(0, 0)], (0, 1): close, (1, 0): close, (1, 1): [(n, n)]}
    return Task([[[0], [n]], [[0], [n]]], both)


def apart(n):
    """Tell the task in which both, without inputs to go by, tell unlike outputs below n."""
    if not is_whole_within(n, 2, MOST_NAMED):
        raise NoTask("apart")
    unlike = [(x, y) for x in range(n) for y in range(n) if x != y]
    return Task([[list(range(n))], [list(range(n))]], {(0, 0): unlike})
