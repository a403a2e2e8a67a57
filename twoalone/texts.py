"""Texts: tasks written in rows, and read again."""

from twoalone.checks import HANDS
from twoalone.errors import NoTask, NoText
from twoalone.tasks import Task

FIGURES = "0123456789"
# No number that stands in a text of a task has more figures, so no longer one needs to be read.
MOST_FIGURES = 9


def alone_row(task, hand, at):
    words = ["alone", str(hand), str(at), *[str(output) for output in task.alone[hand][at]]]
    return " ".join(words)


def both_row(task, pair):
    words = ["both", str(pair[0]), str(pair[1]), *[f"{x}-{y}" for x, y in task.both[pair]]]
    return " ".join(words)


def task_text(task):
    """Tell the task's text."""
    rows = [alone_row(task, hand, at) for hand in HANDS for at in range(task.inputs(hand))]
    return "\n".join(rows + [both_row(task, pair) for pair in task.pairs()])


def number(word):
    if not 0 < len(word) <= MOST_FIGURES or not all([sign in FIGURES for sign in word]):
        raise NoText("a number is written by figures")
    return int(word)


def numbers(words, many):
    if len(words) != many:
        raise NoText("there are too many numbers, or too few")
    return [number(word) for word in words]


def read_alone(alone, words):
    """Put the outputs of a row behind those of this hand's inputs that were read."""
    hand = numbers(words[:2], 2)[0]
    if hand not in HANDS:
        raise NoText("a hand is 0 or 1")
    alone[hand].append([number(word) for word in words[2:]])


def read_both(both, words):
    """Put the pairs of outputs of a row with its pair of inputs."""
    pair = tuple(numbers(words[:2], 2))
    both[pair] = [tuple(numbers(word.split("-"), 2)) for word in words[2:]]


def read_rows(text):
    """Tell what the rows have of a task's alone and both, in whatever order they stand."""
    alone, both = [[], []], {}
    for row in text.split("\n"):
        words = row.split(" ")
        if words[0] == "alone":
            read_alone(alone, words[1:])
        elif words[0] == "both":
            read_both(both, words[1:])
        else:
            raise NoText("a row begins with alone or with both")
    return (alone, both)


def read_task(text):
    """Tell the task that is written so."""
    if not isinstance(text, str):
        raise NoText("a text of a task is a text")
    alone, both = read_rows(text)
    try:
        task = Task(alone, both)
    except NoTask:
        raise NoText("what is written so is no task") from None
    # Each task has one text, so whatever is not written in its very form shows here.
    if task_text(task) != text:
        raise NoText("a task is written otherwise")
    return task
