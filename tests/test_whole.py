"""What the document promises over the whole program: point 3, over drawn small tasks."""

import itertools
import random
import unittest

from tests.things import broken_off, drawn_task, saw_nothing, tasks
from twoalone.bars import bar, bar_fault
from twoalone.boxes import boxed, boxed_bar_fault, boxed_fault
from twoalone.errors import Barred
from twoalone.makes import made_fault, made_of, made_protocol
from twoalone.protocols import protocol_fault, tell
from twoalone.rounds import least_rounds, need, protocol
from twoalone.tasks import Task, agreement, apart, joint, near, swapped
from twoalone.texts import read_task, task_text
from twoalone.weavings import known


def small_tasks(many, inputs, outputs, seed):
    chance = random.Random(seed)
    return [drawn_task(chance, chance.randint(1, inputs), chance.randint(1, inputs), outputs) for count in range(many)]


def met(task, rounds):
    """All that the hands may know behind so many rounds: pairs of both, and what one knows that saw nothing."""
    both, lone = {}, {}
    for inputs in task.both:
        for weaving in broken_off(rounds):
            ours, theirs = known(inputs, weaving, rounds=rounds)
            if ours is not None and theirs is not None:
                both[(0, ours), (1, theirs)] = task.both[inputs]
            for hand, thing in enumerate((ours, theirs)):
                if thing is not None and saw_nothing(thing):
                    lone[hand, thing] = task.alone[hand][inputs[hand]]
    return both, lone


def can_be_told(task, rounds):
    """Told by trying all ways for the hands to tell outputs by what they know: whether one does the task."""
    both, lone = met(task, rounds)
    left = sorted({point for pair in both for point in pair}, key=repr)
    beside = {point: [pair for pair in both if point in pair] for point in left}
    allowed = {point: lone.get(point, {let[point[0]] for pair in beside[point] for let in both[pair]}) for point in left}
    # Along the rows of neighbours, so that what doesn't go together shows early.
    row = []
    while left:
        near_by = [point for point in left if any(set(pair) - {point} <= set(row) for pair in beside[point])]
        row.append((near_by or left)[0])
        left.remove(row[-1])
    return goes_on(row, {}, both, beside, allowed)


def goes_on(row, told, both, beside, allowed):
    if len(told) == len(row):
        return True
    point = row[len(told)]
    for output in sorted(allowed[point]):
        tried = {**told, point: output}
        if all((tried.get(one, -1), tried.get(two, -1)) in let or not (one in tried and two in tried)
               for (one, two), let in ((pair, both[pair]) for pair in beside[point])):
            if goes_on(row, tried, both, beside, allowed):
                return True
    return False


class Protocols(unittest.TestCase):
    def test_a_protocol_or_a_bar_never_both(self):
        counted = {"protocol": 0, "bar": 0}
        for task in [*tasks(), *small_tasks(150, 4, 5, 31)]:
            for rounds in [None, 0, 1, 2, 3, 4, 5]:
                word = self.protocol_or_bar(task, rounds)
                counted[word] += 1
        self.assertGreater(min(counted.values()), 100)

    def protocol_or_bar(self, task, rounds):
        against = bar(task, rounds=rounds)
        try:
            told = protocol(task, rounds=rounds)
        except Barred as caught:
            self.assertIsNotNone(against)
            self.assertIsNone(bar_fault(task, caught.bar, rounds=rounds))
            self.assertIsNone(bar_fault(task, against, rounds=rounds))
            return "bar"
        self.assertIsNone(against)
        self.assertIsNone(protocol_fault(task, told))
        self.assertEqual(told[0], least_rounds(task) if rounds is None else rounds)
        self.assertLessEqual(need(task, told[1]), 3 ** told[0])
        return "protocol"

    def test_the_least_of_all_rounds(self):
        for task in [*tasks(), *small_tasks(100, 4, 5, 32)]:
            least = least_rounds(task)
            self.assertEqual(least is None, bar(task) is not None)
            for rounds in range(6):
                self.assertEqual(bar(task, rounds=rounds) is None, least is not None and rounds >= least)

    def test_a_protocol_does_its_task_in_every_weaving(self):
        for task in [near(3), near(4), apart(3), *small_tasks(120, 3, 3, 33)]:
            least = least_rounds(task)
            for rounds in [] if least is None else range(least, 3):
                told = protocol(task, rounds=rounds)
                for inputs in task.both:
                    for weaving in broken_off(rounds):
                        self.is_let(task, inputs, tell(task, told, inputs, weaving), known(inputs, weaving, rounds=rounds))

    def is_let(self, task, inputs, outputs, knows):
        if None not in outputs:
            self.assertIn(outputs, task.both[inputs])
        for hand in (0, 1):
            self.assertEqual(outputs[hand] is None, knows[hand] is None)
            if knows[hand] is not None and saw_nothing(knows[hand]):
                self.assertIn(outputs[hand], task.alone[hand][inputs[hand]])

    def test_no_way_at_all_does_a_task_by_fewer_rounds(self):
        found = []
        few = [*[near(n) for n in range(1, 6)], agreement(), apart(2), apart(3), *small_tasks(150, 2, 3, 34)]
        for task in few:
            for rounds in (0, 1):
                told = can_be_told(task, rounds)
                found.append(told)
                self.assertEqual(told, bar(task, rounds=rounds) is None)
        self.assertGreater(min(found.count(True), found.count(False)), 50)

    def test_no_way_at_all_by_two_rounds(self):
        for task in [near(4), near(5), *small_tasks(60, 1, 5, 35)]:
            self.assertEqual(can_be_told(task, 2), bar(task, rounds=2) is None)

    def test_swapped_tasks_need_as_many(self):
        for task in [*tasks()[:60], *small_tasks(60, 4, 5, 36)]:
            self.assertEqual(least_rounds(swapped(task)), least_rounds(task))

    def test_joint_tasks_need_what_the_harder_one_needs(self):
        drawn = small_tasks(40, 2, 4, 37)
        for one, other in itertools.product([near(3), apart(2), agreement(), *drawn[:8]], [near(7), *drawn[8:]]):
            both = [least_rounds(one), least_rounds(other)]
            want = None if None in both else max(both)
            self.assertEqual(least_rounds(joint(one, other)), want)


class Boxes(unittest.TestCase):
    def test_a_boxed_protocol_or_a_boxed_bar_never_both(self):
        words = []
        for task in [*tasks(), *small_tasks(150, 4, 4, 41)]:
            word, told = boxed(task)
            words.append(word)
            self.assertIsNone((boxed_fault if word == "boxed" else boxed_bar_fault)(task, told))
            self.assertIsNotNone((boxed_bar_fault if word == "boxed" else boxed_fault)(task, told))
        self.assertGreater(min(words.count("boxed"), words.count("bar")), 50)

    def test_what_can_be_done_by_rounds_can_be_done_with_a_box(self):
        for task in [*tasks(), *small_tasks(150, 3, 4, 42)]:
            if least_rounds(task) is not None:
                self.assertEqual(boxed(task)[0], "boxed")
        self.assertEqual((least_rounds(agreement()), boxed(agreement())[0]), (None, "boxed"))


class Makes(unittest.TestCase):
    def test_what_is_made_needs_no_more_rounds(self):
        few = [agreement(), near(1), near(2), apart(2), apart(3), *small_tasks(30, 2, 3, 51)]
        made = 0
        for task, other in itertools.product(few, repeat=2):
            thing = made_of(task, other)
            if thing is None:
                continue
            made += 1
            self.assertIsNone(made_fault(task, other, thing))
            if least_rounds(other) is not None:
                self.assertLessEqual(least_rounds(task), least_rounds(other))
                told = made_protocol(task, other, thing, protocol(other))
                self.assertIsNone(protocol_fault(task, told))
        self.assertGreater(made, 200)

    def test_what_is_made_of_what_is_boxed_is_boxed(self):
        few = [agreement(), near(2), apart(2), *small_tasks(30, 2, 3, 52)]
        for task, other in itertools.product(few, repeat=2):
            if boxed(other)[0] == "boxed" and made_of(task, other) is not None:
                self.assertEqual(boxed(task)[0], "boxed")


class HandedInAgain(unittest.TestCase):
    def test_what_was_told_may_be_handed_in_again(self):
        for task in [near(4), sample_of_three(), *small_tasks(30, 3, 4, 61)]:
            again = read_task(task_text(swapped(swapped(task))))
            self.assertEqual(again, task)
            self.assertEqual(least_rounds(again), least_rounds(task))
            self.assertEqual(boxed(again), boxed(task))
            if least_rounds(again) is not None:
                told = protocol(again)
                self.assertEqual(told, protocol(task))
                self.assertIn(need(task, told[1]), range(1, 3 ** told[0] + 1))


def sample_of_three():
    return Task([[[0], [1], [2]], [[0, 1], [2]]], {
        (0, 0): [(0, 0), (0, 1)], (1, 1): [(1, 2), (2, 2)], (2, 1): [(1, 1), (1, 2), (2, 1)],
    })
