"""Things of every sort, for arguments that are refused whatever they are, and tasks to try things on."""

import itertools
import random

from twoalone.tasks import Task, agreement, apart, near
from twoalone.weavings import weavings


def odd_things():
    """No one of these is a whole number, or a list, dict or tuple that holds a whole number."""
    ring = []
    ring.append(ring)
    return [
        None, True, False, "", "0", "alone", b"", b"\x00", 0.0, 1.0, float("nan"), 1j,
        (), [], {}, set(), frozenset(), [[]], [[], []], ([], []), (None, None), [None], {"a": []},
        ring, object(), int, len, lambda: 0, range(2), iter([0]), ValueError("0"),
    ]


def broken_off(rounds):
    """All weavings of so many rounds, also those in which a hand stops, each once."""
    found = {tuple(whole[:end]) for whole in weavings(rounds) for end in range(len(whole) + 1)}
    return [list(hands) for hands in sorted(found)]


def drawn_task(chance, many0, many1, outputs):
    """A small task, with pairs of inputs that never come and outputs that are no points among the rest."""
    alone = [
        [sorted(chance.sample(range(outputs), chance.randint(1, min(3, outputs)))) for at in range(many)]
        for many in (many0, many1)
    ]
    every = list(itertools.product(range(outputs), repeat=2))
    both = {}
    for a, b in itertools.product(range(many0), range(many1)):
        if chance.random() < 0.7 or a % many1 == b or b % many0 == a:
            both[a, b] = sorted(chance.sample(every, chance.randint(1, min(len(every), 2 * outputs))))
    return Task(alone, both)


def tasks():
    """Tasks of many shapes, the same ones each time."""
    chance = random.Random(20)
    drawn = [
        drawn_task(chance, chance.randint(1, 3), chance.randint(1, 3), chance.randint(1, 6)) for count in range(150)
    ]
    return [agreement(), apart(2), apart(3), *[near(n) for n in range(1, 8)], *drawn]


def choices(task):
    """All lists of two lists of outputs let alone, one for each input."""
    told = []
    for ours in itertools.product(*task.alone[0]):
        for theirs in itertools.product(*task.alone[1]):
            told.append([list(ours), list(theirs)])
    return told


def row_task(many, alone0=None, alone1=None):
    """One input each; a web in one row of ties, from hand 0's 0 to hand 1's last; many ties, an odd number."""
    steps = [(at // 2 + at % 2, at // 2) for at in range(many)]
    return Task([[alone0 or [0]], [alone1 or [many // 2]]], {(0, 0): steps})


def no_rounds():
    """Things that are no number of rounds, nor None."""
    return [
        *[thing for thing in odd_things() if thing is not None],
        -1, 6, 7, 10 ** 59, -(10 ** 59), [0], (0,), {0: 0}, "1", 2.0,
    ]


def sample():
    """(1, 1) never comes."""
    let = {
        (1, 0): [(2, 1), (3, 1), (3, 4)],
        (0, 0): [(0, 1), (0, 4), (5, 4)],
        (0, 1): [(0, 6), (5, 6)],
    }
    return Task([[[0, 5], [2]], [[1, 4], [6]]], let)


def no_pairs():
    """Things that are no pair of inputs of the sample."""
    return [
        *odd_things(), 0, "00", (0,), (0, 0, 0), [0, 0], [0, 1], (-1, 0), (0, -1), (2, 0), (0, 3), (1, 1), (10 ** 59, 0),
        (True, 0), (0, False), (0.0, 0), ("0", 0), (0, None), ([], 0), ({}, 0), ((0, 0), 0), {0: 0},
    ]


def saw_nothing(thing):
    return not isinstance(thing, tuple) or (thing[1] is None and saw_nothing(thing[0]))
