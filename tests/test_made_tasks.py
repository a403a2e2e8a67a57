import copy
import unittest

from tests.things import odd_things
from twoalone.errors import NoJoint, NoTask
from twoalone.tasks import Task, agreement, apart, joint, near, swapped


def lone(outputs0, outputs1, let):
    """A task of one input each."""
    return Task([[outputs0], [outputs1]], {(0, 0): let})


def wide():
    """A task of one input and two, so that the hands' numbers of inputs are unlike."""
    return Task([[[0, 7]], [[2], [0, 4]]], {(0, 0): [(0, 2), (7, 1)], (0, 1): [(3, 0)]})


def tall():
    """A task of three inputs and two, in which some pairs never come."""
    alone = [[[1], [2, 3], [5]], [[6], [0, 1]]]
    both = {(2, 1): [(5, 0), (5, 1)], (0, 0): [(1, 6), (4, 4)], (1, 0): [(2, 6), (3, 0)]}
    return Task(alone, both)


def changed(task):
    """The task, with all that it holds spoiled."""
    for hand in task.alone:
        for outputs in hand:
            outputs.append("changed")
    for let in task.both.values():
        let.append("changed")
    task.alone.clear()
    task.both.clear()


class Swapped(unittest.TestCase):
    def test_by_hand(self):
        alone = [[[2], [0, 4]], [[0, 7]]]
        self.assertEqual(swapped(wide()), Task(alone, {(0, 0): [(1, 7), (2, 0)], (1, 0): [(0, 3)]}))

    def test_pairs_let_are_sorted_anew(self):
        turned = swapped(lone([0], [0], [(0, 5), (1, 2), (2, 9), (2, 10)]))
        self.assertEqual(turned.both, {(0, 0): [(2, 1), (5, 0), (9, 2), (10, 2)]})

    def test_twice_is_the_task_itself(self):
        for task in [wide(), tall(), agreement(), near(4), apart(3)]:
            self.assertEqual(swapped(swapped(task)), task)

    def test_the_task_is_not_changed_and_not_shared(self):
        task = tall()
        changed(swapped(task))
        self.assertEqual(task, tall())
        self.assertEqual(list(task.both), list(tall().both))
        self.assertEqual(swapped(task), swapped(tall()))


class Joint(unittest.TestCase):
    def test_of_one_input_each(self):
        one = lone([1, 2], [0], [(0, 1), (2, 2)])
        other = lone([3], [0, 7], [(0, 7), (3, 0)])
        want = lone([11, 19], [0, 7], [(0, 15), (3, 8), (16, 23), (19, 16)])
        self.assertEqual(joint(one, other), want)

    def test_of_unlike_numbers_of_inputs(self):
        told = joint(wide(), tall())
        self.assertEqual((told.inputs(0), told.inputs(1)), (3, 4))
        self.assertEqual(told.alone[0], [[1, 57], [2, 3, 58, 59], [5, 61]])
        self.assertEqual(told.alone[1], [[22], [16, 17], [6, 38], [0, 1, 32, 33]])
        self.assertEqual(told.pairs(), [(0, 0), (0, 2), (1, 0), (1, 2), (2, 1), (2, 3)])
        self.assertEqual(told.both[2, 1], [(5, 16), (5, 17), (61, 8), (61, 9)])
        self.assertEqual(told.both[1, 2], [(26, 6), (27, 0)])
        self.assertEqual(told.both[0, 0], [(1, 22), (4, 20), (57, 14), (60, 12)])

    def test_the_other_way_round(self):
        told = joint(tall(), wide())
        self.assertEqual((told.inputs(0), told.inputs(1)), (3, 4))
        self.assertEqual(told.alone[0], [[8, 15], [16, 23, 24, 31], [40, 47]])
        self.assertEqual(told.alone[1], [[50], [48, 52], [2, 10], [0, 4, 8, 12]])
        self.assertEqual(told.pairs(), [(0, 0), (0, 1), (1, 0), (1, 1), (2, 2), (2, 3)])
        self.assertEqual(told.both[2, 3], [(43, 0), (43, 8)])

    def test_of_named_ones(self):
        told = joint(agreement(), agreement())
        self.assertEqual(told.alone, [[[0], [1], [8], [9]]] * 2)
        self.assertEqual(len(told.both), 16)
        self.assertEqual(told.both[1, 1], [(1, 1)])
        self.assertEqual(told.both[0, 1], [(0, 0), (1, 1)])
        self.assertEqual(told.both[1, 3], [(1, 1), (9, 9)])
        self.assertEqual(told.both[0, 3], [(0, 0), (1, 1), (8, 8), (9, 9)])
        greatest = joint(apart(7), near(7))
        self.assertEqual(greatest.alone[0][1], [7, 15, 23, 31, 39, 47, 55])
        self.assertEqual(len(greatest.both[0, 1]), 42 * 22)

    def test_outputs_to_7_in_either(self):
        told = joint(lone([7], [7], [(7, 7)]), lone([7], [7], [(7, 7)]))
        self.assertEqual(told, lone([63], [63], [(63, 63)]))

    def test_no_joint_of_an_output_8_anywhere(self):
        fair = lone([7], [7], [(7, 7)])
        for foul in [
            lone([8], [0], [(0, 0)]), lone([0, 8], [0], [(0, 0)]), lone([0], [8], [(0, 0)]), lone([0], [0], [(8, 0)]),
            lone([0], [0], [(0, 8)]), lone([0], [0], [(0, 0), (0, 8), (1, 1)]), lone([63], [63], [(63, 63)]),
        ]:
            for task, other in [(fair, foul), (foul, fair), (foul, foul)]:
                with self.subTest(foul=(foul.alone, foul.both)), self.assertRaises(NoJoint):
                    joint(task, other)
                self.assertEqual(fair, lone([7], [7], [(7, 7)]))

    def test_the_tasks_are_not_changed_and_not_shared(self):
        for name in ["task", "other"]:
            handed = {"task": wide(), "other": tall()}
            told = joint(**handed)
            changed(handed[name])
            self.assertEqual(told, joint(wide(), tall()))
        task, other = wide(), tall()
        changed(joint(task, other))
        self.assertEqual((task, other), (wide(), tall()))
        self.assertEqual(joint(task, other), joint(wide(), tall()))

    def test_of_a_task_with_itself(self):
        task = wide()
        told = joint(task, task)
        self.assertEqual(told, joint(wide(), wide()))
        self.assertEqual(task, wide())


class Agreement(unittest.TestCase):
    def test_by_hand(self):
        told = agreement()
        self.assertEqual(told.alone, [[[0], [1]], [[0], [1]]])
        either = [(0, 0), (1, 1)]
        self.assertEqual(told.both, {(0, 0): [(0, 0)], (0, 1): either, (1, 0): either, (1, 1): [(1, 1)]})

    def test_each_is_the_askers_own(self):
        want = copy.deepcopy(agreement())
        changed(agreement())
        self.assertEqual(agreement(), want)
        self.assertIsInstance(want, Task)


class Near(unittest.TestCase):
    def test_the_least(self):
        told = near(1)
        every = [(0, 0), (0, 1), (1, 0), (1, 1)]
        self.assertEqual(told.alone, [[[0], [1]], [[0], [1]]])
        self.assertEqual(told.both, {(0, 0): [(0, 0)], (0, 1): every, (1, 0): every, (1, 1): [(1, 1)]})

    def test_three(self):
        told = near(3)
        close = [(0, 0), (0, 1), (1, 0), (1, 1), (1, 2), (2, 1), (2, 2), (2, 3), (3, 2), (3, 3)]
        self.assertEqual(told.alone, [[[0], [3]], [[0], [3]]])
        self.assertEqual(told.both, {(0, 0): [(0, 0)], (0, 1): close, (1, 0): close, (1, 1): [(3, 3)]})

    def test_the_greatest(self):
        told = near(n=7)
        self.assertEqual(told.alone, [[[0], [7]], [[0], [7]]])
        self.assertEqual(len(told.both[0, 1]), 22)
        self.assertEqual(told.both[1, 0][-2:], [(7, 6), (7, 7)])
        self.assertEqual(told.both[1, 1], [(7, 7)])

    def test_none(self):
        for n in [*odd_things(), 0, -1, 8, 64, 10 ** 60, [1], (1,)]:
            with self.subTest(n=repr(n)), self.assertRaises(NoTask) as caught:
                near(n)
            self.assertEqual(caught.exception.what, "near")

    def test_each_is_the_askers_own(self):
        want = copy.deepcopy(near(2))
        changed(near(2))
        self.assertEqual(near(2), want)


class Apart(unittest.TestCase):
    def test_the_least(self):
        self.assertEqual(apart(2), lone([0, 1], [0, 1], [(0, 1), (1, 0)]))

    def test_three(self):
        unlike = [(0, 1), (0, 2), (1, 0), (1, 2), (2, 0), (2, 1)]
        self.assertEqual(apart(3), lone([0, 1, 2], [0, 1, 2], unlike))

    def test_the_greatest(self):
        told = apart(n=7)
        self.assertEqual(told.alone, [[[0, 1, 2, 3, 4, 5, 6]]] * 2)
        self.assertEqual(len(told.both[0, 0]), 42)
        self.assertEqual(told.both[0, 0][-1], (6, 5))

    def test_none(self):
        for n in [*odd_things(), 0, 1, -2, 8, 64, 10 ** 60, [2], (2,)]:
            with self.subTest(n=repr(n)), self.assertRaises(NoTask) as caught:
                apart(n)
            self.assertEqual(caught.exception.what, "apart")

    def test_each_is_the_askers_own(self):
        want = copy.deepcopy(apart(4))
        changed(apart(4))
        self.assertEqual(apart(4), want)
