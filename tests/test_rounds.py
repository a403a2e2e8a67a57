import copy
import unittest

from tests.things import choices, no_rounds, odd_things, row_task, tasks
from twoalone.bars import bar_fault
from twoalone.errors import Barred, NoChoice, NoRounds
from twoalone.protocols import protocol_fault
from twoalone.rounds import least_rounds, need, protocol
from twoalone.tasks import Task, agreement, apart, joint, near, swapped
from twoalone.webs import far

# By the number of ties from end to end, the number of rounds.
ROWS = [
    (1, 0), (3, 1), (5, 2), (7, 2), (9, 2), (11, 3), (13, 3), (27, 3), (29, 4), (31, 4), (39, 4), (81, 4), (83, 5),
    (127, 5),
]


def several():
    """Three inputs of hand 0, two of hand 1; (2, 0) never comes."""
    return Task([[[0, 1], [0], [2, 5]], [[0, 2], [1]]], {
        (0, 0): [(0, 0), (1, 0), (1, 1), (1, 2)],
        (0, 1): [(0, 1), (1, 1)],
        (1, 0): [(0, 0), (0, 2)],
        (1, 1): [(0, 0), (0, 2), (3, 1), (3, 2)],
        (2, 1): [(2, 1)],
    })


def no_choices():
    """All sorts of ways not to be a choice of several()."""
    right = [[0, 0, 2], [2, 1]]
    told = [*odd_things(), 0, "ab", tuple(right), {0: right[0], 1: right[1]}, [*right, [0]], right[:1], [right]]
    told += [[other, [2, 1]] for other in [
        *odd_things(), 0, "002", (0, 0, 2), [0, 0], [0, 0, 2, 2], [0], {0: 0, 1: 0, 2: 2}, [2, 0, 2], [0, 1, 2],
        [0, 0, 0], [0, 0, 63], [0, 0, 64], [0, 0, -1], [0, 0, 10 ** 59], [False, 0, 2], [0, False, 2], [True, 0, 2],
        ["0", 0, 2], [0, 0, "2"], [None, 0, 2], [0, 0, None], [0.0, 0, 2], [0, 0, 2.0], [[0], 0, 2], [0, 0, (2,)],
        [0, 0, {}],
    ]]
    told += [[[0, 0, 2], other] for other in [
        *odd_things(), 0, "21", (2, 1), [2], [2, 1, 1], [1, 1], [2, 0], [1, 2], [2, True], [2, 1.0], ["2", 1],
        [2, None], [2, [1]], {2: 1},
    ]]
    return told


class Need(unittest.TestCase):
    def test_of_one_input_each(self):
        for many, least in ROWS:
            self.assertEqual(need(row_task(many), [[0], [many // 2]]), many)
        row = row_task(9, [0, 1, 2, 4], [0, 1, 3, 4])
        for x, y, want in [(0, 4, 9), (0, 0, 1), (1, 4, 7), (4, 4, 1), (4, 0, 7), (2, 1, 1), (1, 1, 1), (4, 1, 5)]:
            self.assertEqual(need(row, [[x], [y]]), want)

    def test_of_several_inputs_the_greatest(self):
        for n, want in [(1, 1), (2, 3), (3, 3), (4, 5), (5, 5), (6, 7), (7, 7)]:
            self.assertEqual(need(near(n), [[0, n], [0, n]]), want)
        self.assertEqual(need(apart(3), [[0], [2]]), 1)
        self.assertEqual(need(apart(3), [[1], [1]]), 3)
        self.assertEqual(need(joint(near(3), apart(3)), [[0, 24], [1, 25]]), 3)
        # From 0 to 0, 1, 0, 1 and 2 to 1: one tie each, but for the one of three.
        task = several()
        task.both[1, 1] = [(0, 0), (0, 1), (3, 1), (3, 2)]
        self.assertEqual(need(task, [[0, 0, 2], [0, 1]]), 1)
        self.assertEqual(need(task, [[0, 0, 2], [2, 1]]), 3)
        self.assertEqual(need(task, [[1, 0, 2], [2, 1]]), 1)

    def test_none_where_one_pair_has_no_way(self):
        self.assertIsNone(need(agreement(), [[0, 1], [0, 1]]))
        # Only (0, 1) has no way, and for the other choice only (2, 1), for 5 is no point.
        self.assertEqual(need(several(), [[0, 0, 2], [0, 1]]), 3)
        task = several()
        task.both[0, 1] = [(0, 0), (1, 1)]
        self.assertIsNone(need(task, [[0, 0, 2], [0, 1]]))
        self.assertEqual(need(task, [[1, 0, 2], [0, 1]]), 3)
        self.assertIsNone(need(several(), [[0, 0, 5], [0, 1]]))
        self.assertIsNone(need(Task([[[0]], [[3]]], {(0, 0): [(0, 0)]}), [[0], [3]]))
        self.assertIsNone(need(Task([[[0]], [[3]]], {(0, 0): [(0, 0), (3, 3)]}), [[0], [3]]))

    def test_no_choice(self):
        task = several()
        for choice in no_choices():
            with self.subTest(choice=repr(choice)), self.assertRaises(NoChoice):
                need(task, choice)
        self.assertEqual(task, several())

    def test_the_choice_of_another_task(self):
        for choice in [[[0, 3], [0, 3]], [[0], [0]], [[0, 0], [2, 1, 1]]]:
            with self.assertRaises(NoChoice):
                need(several(), choice)

    def test_nothing_handed_in_is_changed(self):
        task, choice = several(), [[1, 0, 2], [2, 1]]
        told = need(task, choice)
        self.assertEqual(need(task, choice), told)
        self.assertEqual((task, choice), (several(), [[1, 0, 2], [2, 1]]))
        self.assertEqual(list(task.both), list(several().both))

    def test_a_protocol_is_there_just_where_the_need_is_no_greater(self):
        for task in tasks()[:60]:
            for choice in choices(task)[:6]:
                many = need(task, choice)
                ways = [far(task, (a, b), choice[0][a], choice[1][b]) for a, b in task.both]
                self.assertEqual(many, None if None in ways else max(ways))


class LeastRounds(unittest.TestCase):
    def test_near(self):
        self.assertEqual([least_rounds(near(n)) for n in range(1, 8)], [0, 1, 1, 2, 2, 2, 2])

    def test_agreement_has_none(self):
        self.assertIsNone(least_rounds(agreement()))
        self.assertIsNone(least_rounds(joint(agreement(), near(3))))
        self.assertIsNone(least_rounds(joint(near(7), agreement())))

    def test_apart(self):
        self.assertEqual([least_rounds(apart(n)) for n in range(2, 8)], [0] * 6)

    def test_rows(self):
        for many, least in ROWS:
            with self.subTest(many=many):
                self.assertEqual(least_rounds(row_task(many)), least)
                self.assertEqual(least_rounds(swapped(row_task(many))), least)

    def test_one_more_tie_behind_the_end_is_none_on_the_way(self):
        for many in (1, 3, 9, 27):
            row = row_task(many)
            row.both[0, 0].append((many // 2 + 1, many // 2))
            self.assertEqual(least_rounds(row), {1: 0, 3: 1, 9: 2, 27: 3}[many])

    def test_the_best_of_several_choices(self):
        self.assertEqual(least_rounds(row_task(29, [0, 12, 14], [14])), 0)
        self.assertEqual(least_rounds(row_task(29, [0, 12], [14])), 2)
        self.assertEqual(least_rounds(row_task(29, [0, 13], [14])), 1)
        self.assertEqual(least_rounds(several()), 1)

    def test_joint_tasks(self):
        for task, want in [
            (joint(near(3), near(3)), 1), (joint(near(2), near(7)), 2), (joint(near(1), apart(3)), 0),
            (joint(apart(2), row_task(11)), 3), (joint(row_task(13), near(1)), 3),
        ]:
            self.assertEqual(least_rounds(task), want)

    def test_nine_inputs_each(self):
        three = Task([[[0], [1], [2]], [[0], [1], [2]]], {
            (a, b): [(x, y) for x in range(3) for y in range(3) if abs(x - y) <= 1] for a in range(3) for b in range(3)
        })
        self.assertEqual(least_rounds(three), 1)
        nine = joint(three, three)
        self.assertEqual((nine.inputs(0), nine.inputs(1)), (9, 9))
        self.assertEqual(least_rounds(nine), 1)
        self.assertIsNone(protocol_fault(nine, protocol(nine)))
        with self.assertRaises(Barred) as caught:
            protocol(nine, rounds=0)
        self.assertIsNone(bar_fault(nine, caught.exception.bar, rounds=0))

    def test_four_inputs_each_of_many_outputs(self):
        outputs = list(range(10))
        close = [(x, y) for x in outputs for y in outputs if y in (x, (x + 1) % 10)]
        task = Task([[outputs] * 4] * 2, {(a, b): close for a in range(4) for b in range(4)})
        self.assertEqual(least_rounds(task), 0)
        ends = [[0], [1, 2], [3], [5]]
        self.assertEqual(least_rounds(Task([ends, ends], task.both)), 2)


class Protocol(unittest.TestCase):
    def without_fault(self, task, told, rounds):
        self.assertIsInstance(told, tuple)
        self.assertEqual(told[0], rounds)
        self.assertIsNone(protocol_fault(task, told))

    def barred(self, task, rounds):
        with self.assertRaises(Barred) as caught:
            protocol(task, rounds=rounds)
        self.assertIsNone(bar_fault(task, caught.exception.bar, rounds=rounds))
        return caught.exception.bar

    def test_of_the_least_number_of_rounds(self):
        for task, least in [
            *[(row_task(many), rounds) for many, rounds in ROWS],
            *zip([near(n) for n in range(1, 8)], [0, 1, 1, 2, 2, 2, 2]),
            (apart(2), 0), (apart(7), 0), (several(), 1), (joint(near(3), near(2)), 1),
        ]:
            self.without_fault(task, protocol(task), least)
            self.without_fault(task, protocol(task, rounds=None), least)
            for rounds in range(6):
                if rounds >= least:
                    self.without_fault(task, protocol(task, rounds=rounds), rounds)
                else:
                    self.barred(task, rounds)

    def test_by_hand(self):
        self.assertEqual(protocol(near(1)), (0, [[0, 1], [0, 1]], {(a, b): [a, b] for a in (0, 1) for b in (0, 1)}))
        self.assertEqual(protocol(row_task(3)), (1, [[0], [1]], {(0, 0): [0, 0, 1, 1]}))

    def test_walks_for_just_the_pairs(self):
        rounds, alone, walks = protocol(several())
        self.assertEqual(sorted(walks), [(0, 0), (0, 1), (1, 0), (1, 1), (2, 1)])
        self.assertEqual({len(row) for row in walks.values()}, {4})

    def test_fewer_rounds_are_barred(self):
        self.assertEqual(bar_fault(near(4), self.barred(near(4), 1), rounds=2), ("apart", [0, 0]))
        for rounds in range(3):
            self.barred(row_task(29), rounds)

    def test_a_task_of_no_rounds_at_all(self):
        for task in [
            agreement(), joint(agreement(), near(2)), Task([[[0]], [[3]]], {(0, 0): [(0, 0)]}),
            Task([[[0, 1]], [[0], [1]]], {(0, b): [(0, 0), (1, 1)] for b in (0, 1)}),
        ]:
            for rounds in [None, *range(6)]:
                self.barred(task, rounds)
            with self.assertRaises(Barred) as caught:
                protocol(task)
            self.assertIsNone(bar_fault(task, caught.exception.bar))

    def test_a_number_of_rounds_that_is_none(self):
        for task in [near(3), agreement()]:
            for rounds in no_rounds():
                with self.subTest(rounds=repr(rounds)), self.assertRaises(NoRounds):
                    protocol(task, rounds=rounds)

    def test_lists_of_the_askers_own(self):
        for task in [near(3), several(), apart(3), row_task(9)]:
            before = copy.deepcopy(task)
            for rounds in [None, 2, 3]:
                first = protocol(task, rounds=rounds)
                want = copy.deepcopy(first)
                lists = [first[1], *first[1], *first[2].values()]
                self.assertEqual(len({id(each) for each in lists}), len(lists))
                for each in lists:
                    each.append("changed")
                first[2].clear()
                self.assertEqual(protocol(task, rounds=rounds), want)
                self.assertEqual(task, before)
                self.assertEqual(list(task.both), list(before.both))

    def test_bars_of_the_askers_own(self):
        told = [self.barred(agreement(), None) for count in range(2)]
        want = copy.deepcopy(told[0])
        told[0][3].clear()
        self.assertEqual(told[1], want)
        self.assertEqual(self.barred(agreement(), None), want)
