import copy
import unittest
from unittest import mock

from tests.things import odd_things
from twoalone.errors import NoHand, NoTask
from twoalone.tasks import Task, agreement

ALONE = [[[0, 3], [1]], [[2], [0, 63], [5]]]
BOTH = {
    (1, 2): [(1, 5)],
    (0, 0): [(0, 2), (3, 2), (3, 4)],
    (1, 0): [(0, 0), (0, 1), (63, 63)],
    (0, 1): [(7, 9)],
}


def sample():
    return Task(copy.deepcopy(ALONE), copy.deepcopy(BOTH))


def lists_in(task):
    """All lists that the fields of the task hold, the field alone too."""
    rows = [outputs for hand in task.alone for outputs in hand]
    return [task.alone, *task.alone, *rows, *task.both.values()]


def with_outputs(outputs):
    """An alone in which these stand in turn at the first and at the last place."""
    return [[[outputs, [1]], [[2]]], [[[1], [2]], [[2], outputs]]]


NO_OUTPUTS = [
    [-1], [64], [0, 64], [1, 0], [0, 0], [0, 2, 1], [0, 1, 1], [True], [0, True], [False, 1], [0, None], ["0"],
    [0.0], [[0]], [{}], [(0,)], (0,), {0: 0}, {0}, 0, "0",
]
NO_HANDS = [
    [[[0]]], [[[0]], [[0]], [[0]]], ([[0]], [[0]]), [([0],), [[0]]], [[[0]], ([0],)], [[], [[0]]], [[[0]], []],
    {0: [[0]], 1: [[0]]}, [{0: [0]}, [[0]]], [[[0]], None], [None, [[0]]], [[0], [0]], [[[0]], [0]], "ab", 0,
]
NO_KEYS = [
    0, "00", None, (), (0,), (0, 0, 0), (2, 0), (0, 3), (-1, 0), (0, -1), ("0", 0), (0, None), (0, 1.5), (0, (0,)),
    frozenset([0, 1]), b"00", (True, 1), (0, True), (False, 0),
]
NO_LETS = [
    [(0, 0), (0, 0)], [(0, 1), (0, 0)], [(1, 0), (0, 1)], [(0, 0), (1, 1), (1, 1)], [(-1, 0)], [(0, -1)], [(64, 0)],
    [(0, 64)], [[0, 0]], [(0,)], [(0, 0, 0)], [()], [0], [None], ["00"], [(True, 0)], [(0, False)], [(0, None)],
    [(0, "1")], [(0.0, 0)], [({}, 0)], [([], 0)], [(0, 0), [1, 1]], ((0, 0),), {(0, 0): 0}, {(0, 0)}, (0, 0), 0,
]


class TaskFields(unittest.TestCase):
    def test_fields_as_handed_in(self):
        task = sample()
        self.assertEqual(task.alone, ALONE)
        self.assertEqual(task.both, BOTH)

    def test_keys_in_the_order_in_which_they_were_handed_in(self):
        self.assertEqual(list(sample().both), list(BOTH))
        turned = {pair: BOTH[pair] for pair in reversed(BOTH)}
        self.assertEqual(list(Task(ALONE, turned).both), list(turned))

    def test_edges_of_what_is_a_task(self):
        ends = Task([[[0, 63]], [[63]]], {(0, 0): [(0, 63), (63, 0)]})
        self.assertEqual((ends.inputs(0), ends.inputs(1), ends.pairs()), (1, 1, [(0, 0)]))
        every = list(range(64))
        pairs = [(x, y) for x in every for y in every]
        self.assertEqual(Task([[every], [every]], {(0, 0): pairs}).both, {(0, 0): pairs})
        many = Task([[[0]] * 16, [[0]]], {(a, 0): [(0, 0)] for a in range(16)})
        self.assertEqual(many.inputs(0), 16)

    def test_fields_are_lists_and_a_dict_of_the_tasks_own(self):
        alone, both = copy.deepcopy(ALONE), copy.deepcopy(BOTH)
        task = Task(alone, both)
        alone[0][0].append(9)
        alone[1].append([9])
        alone.append([])
        both[0, 0].append((9, 9))
        both[0, 2] = [(9, 9)]
        del both[1, 2]
        self.assertEqual(task.alone, ALONE)
        self.assertEqual(task.both, BOTH)
        self.assertEqual(task.inputs(1), 3)
        self.assertEqual(task.pairs(), sorted(BOTH))

    def test_no_two_lists_are_the_same_one(self):
        outputs, let = [0], [(0, 0)]
        rows = [outputs, outputs]
        alone, both = [rows, rows], {(0, 0): let, (0, 1): let, (1, 0): let, (1, 1): let}
        task = Task(alone, both)
        found = lists_in(task)
        self.assertEqual(len({id(thing) for thing in found}), len(found))
        handed = [id(thing) for thing in [alone, rows, outputs, let]]
        self.assertFalse([thing for thing in found if id(thing) in handed])
        task.alone[0][0].append(1)
        task.both[0, 1].append((1, 1))
        self.assertEqual(task.alone, [[[0, 1], [0]], [[0], [0]]])
        self.assertEqual(task.both, {(0, 0): [(0, 0)], (0, 1): [(0, 0), (1, 1)], (1, 0): [(0, 0)], (1, 1): [(0, 0)]})

    def test_fields_of_another_task_are_its_own(self):
        first = sample()
        second = Task(first.alone, first.both)
        second.alone[0][0].append(9)
        second.both[0, 0].append((9, 9))
        second.both[0, 2] = [(9, 9)]
        self.assertEqual(first, sample())
        third = sample()
        first.alone[1].pop()
        first.both.clear()
        self.assertEqual(third, sample())

    def test_what_is_handed_in_is_not_changed(self):
        alone, both = copy.deepcopy(ALONE), copy.deepcopy(BOTH)
        Task(alone, both)
        self.assertEqual((alone, both, list(both)), (ALONE, BOTH, list(BOTH)))
        for outputs in NO_OUTPUTS:
            alone = [[[0], outputs], [[0]]]
            before = copy.deepcopy(alone)
            with self.assertRaises(NoTask):
                Task(alone, both)
            self.assertEqual((alone, both, list(both)), (before, BOTH, list(BOTH)))
        for let in NO_LETS:
            alone, both = copy.deepcopy(ALONE), {**copy.deepcopy(BOTH), (1, 2): let}
            before = copy.deepcopy(both)
            with self.assertRaises(NoTask):
                Task(alone, both)
            self.assertEqual((alone, both, list(both)), (ALONE, before, list(before)))


class NoTasks(unittest.TestCase):
    def refused(self, alone, both, what):
        with self.subTest(alone=repr(alone), both=repr(both)):
            with self.assertRaises(NoTask) as caught:
                Task(alone, both)
            self.assertEqual(caught.exception.what, what)

    def test_alone_of_any_kind(self):
        for alone in [*odd_things(), *NO_HANDS, 0, 1]:
            self.refused(alone, {(0, 0): [(0, 0)]}, "alone")

    def test_outputs_that_are_none(self):
        for outputs in [*odd_things(), *NO_OUTPUTS]:
            for alone in with_outputs(outputs):
                self.refused(alone, {(0, 0): [(0, 0)], (1, 0): [(0, 0)], (1, 1): [(0, 0)]}, "alone")

    def test_hands_that_are_none(self):
        for rows in [*odd_things(), 0, [0], ([0],)]:
            self.refused([rows, [[0]]], {(0, 0): [(0, 0)]}, "alone")
            self.refused([[[0]], rows], {(0, 0): [(0, 0)]}, "alone")

    def test_both_of_any_kind(self):
        for both in [*odd_things(), 0, [(0, 0)], [((0, 0), [(0, 0)])], {(0, 0)}]:
            self.refused([[[0]], [[0]]], both, "both")

    def test_keys_that_are_none(self):
        alone = [[[0], [0]], [[0], [0], [0]]]
        whole = {(0, 0): [(0, 0)], (0, 1): [(0, 0)], (0, 2): [(0, 0)], (1, 2): [(0, 0)]}
        Task(alone, whole)
        for key in NO_KEYS:
            rest = {pair: let for pair, let in whole.items() if pair != key}
            self.refused(alone, {key: [(0, 0)], **rest}, "both")
            self.refused(alone, {**rest, key: [(0, 0)]}, "both")

    def test_pairs_let_that_are_none(self):
        for let in [*odd_things(), *NO_LETS]:
            self.refused([[[0], [0]], [[0]]], {(0, 0): let, (1, 0): [(0, 0)]}, "both")
            self.refused([[[0], [0]], [[0]]], {(0, 0): [(0, 0)], (1, 0): let}, "both")

    def test_an_input_in_no_pair(self):
        alone = [[[0], [0]], [[0], [0]]]
        let = [(0, 0)]
        Task(alone, {(0, 1): let, (1, 0): let})
        for pairs in [[(0, 0), (0, 1)], [(1, 0), (1, 1)], [(0, 0), (1, 0)], [(0, 1), (1, 1)], [(0, 0)], []]:
            self.refused(alone, {pair: let for pair in pairs}, "both")

    def test_as_many_inputs_as_the_hand_has_but_others(self):
        let = [(0, 0)]
        for a in [-1, 2, 3]:
            self.refused([[[0], [0]], [[0]]], {(0, 0): let, (a, 0): let}, "both")
            self.refused([[[0]], [[0], [0]]], {(0, a): let, (0, 0): let}, "both")
            self.refused([[[0], [0]], [[0]]], {(1, 0): let, (a, 0): let}, "both")
            self.refused([[[0]], [[0], [0]]], {(0, 1): let, (0, a): let}, "both")

    def test_alone_is_told_ahead_of_both(self):
        for both in [*odd_things(), {}, {(0, 0): []}, {(9, 9): [(0, 0)]}]:
            self.refused([[[0]], [[1, 0]]], both, "alone")
            self.refused(None, both, "alone")

    def test_a_refusal_has_no_say_in_what_comes_later(self):
        self.refused(None, None, "alone")
        self.refused(ALONE, None, "both")
        self.assertEqual(sample(), sample())


class Equality(unittest.TestCase):
    def test_equal_fields(self):
        self.assertTrue(sample() == sample())
        self.assertFalse(sample() != sample())
        turned = Task(ALONE, {pair: BOTH[pair] for pair in reversed(BOTH)})
        self.assertTrue(sample() == turned)

    def test_unlike_fields(self):
        alone = copy.deepcopy(ALONE)
        alone[1][1] = [0]
        both = {**BOTH, (0, 1): [(7, 8)]}
        more = {**BOTH, (1, 1): [(7, 9)]}
        for other in [Task(alone, BOTH), Task(ALONE, both), Task(ALONE, more), agreement()]:
            self.assertFalse(sample() == other)
            self.assertTrue(sample() != other)
            self.assertFalse(other == sample())

    def test_what_is_no_task(self):
        alike = mock.Mock(alone=ALONE, both=BOTH)
        for other in [*odd_things(), 0, (ALONE, BOTH), [ALONE, BOTH], ALONE, BOTH, alike, Task]:
            with self.subTest(other=repr(other)):
                self.assertFalse(sample() == other)
                self.assertTrue(sample() != other)

    def test_not_even_to_what_is_equal_to_all(self):
        self.assertFalse(sample() == mock.ANY)


class Asked(unittest.TestCase):
    def test_inputs(self):
        self.assertEqual(sample().inputs(0), 2)
        self.assertEqual(sample().inputs(hand=1), 3)

    def test_no_hand(self):
        task = sample()
        for hand in [*odd_things(), -1, 2, 10 ** 60, [0], (0,), {0: 0}]:
            with self.subTest(hand=repr(hand)), self.assertRaises(NoHand):
                task.inputs(hand)
        self.assertEqual(task, sample())

    def test_pairs_sorted(self):
        self.assertEqual(sample().pairs(), [(0, 0), (0, 1), (1, 0), (1, 2)])

    def test_pairs_are_a_list_of_the_askers_own(self):
        task = sample()
        task.pairs().clear()
        task.pairs().append("changed")
        self.assertEqual(task.pairs(), [(0, 0), (0, 1), (1, 0), (1, 2)])
        self.assertEqual(task, sample())
        self.assertEqual(list(task.both), list(BOTH))
