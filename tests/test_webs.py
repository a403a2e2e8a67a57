import copy
import itertools
import unittest

from tests.things import odd_things, tasks
from twoalone.errors import NoInputs, NoRounds
from twoalone.tasks import Task, agreement, apart, near
from twoalone.webs import far, lots, walk

NO_PAIRS = [
    *odd_things(), 0, "00", (0,), (0, 0, 0), [0, 0], [0, 1], (-1, 0), (0, -1), (2, 0), (0, 2), (1, 1), (10 ** 59, 0),
    (True, 0), (0, False), (0, True), (0.0, 0), ("0", 0), (0, None), ([], 0), (0, []), ({}, 0), ((0, 0), 0), {0: 0},
]
NO_MANY = [*[thing for thing in odd_things() if thing is not None], 0, -1, 1000, 1001, 10 ** 59, [1], (1,), "1", 3.0]


def sample():
    """Its pairs have a web in three lots, one in a row, and one with a ring of ties; (1, 1) never comes."""
    both = {
        (1, 0): [(0, 0), (1, 0), (1, 1), (2, 1), (2, 2), (3, 2)],
        (0, 0): [(0, 3), (1, 1), (1, 2), (2, 1), (9, 0), (9, 3)],
        (0, 1): [(0, 0), (0, 1), (1, 0), (1, 1), (1, 2)],
    }
    return Task([[[0, 1], [3]], [[0], [2, 5]]], both)


def fewest(let, x, y):
    """As far tells it: all that one more tie leads to, over and over, from hand 0's x."""
    points = {(0, x)} if x in [pair[0] for pair in let] else set()
    for many in range(1, 2 * len(let) + 1):
        points = {(many % 2, pair[many % 2]) for pair in let for hand, out in points if pair[hand] == out}
        if (1, y) in points:
            return many
    return None


class Lots(unittest.TestCase):
    def test_by_hand(self):
        task = sample()
        apart_lots = [[(0, 0), (0, 9), (1, 0), (1, 3)], [(0, 1), (0, 2), (1, 1), (1, 2)]]
        self.assertEqual(lots(task, (0, 0)), apart_lots)
        self.assertEqual(lots(task, (1, 0)), [[(0, 0), (0, 1), (0, 2), (0, 3), (1, 0), (1, 1), (1, 2)]])
        self.assertEqual(lots(task, (0, 1)), [[(0, 0), (0, 1), (1, 0), (1, 1), (1, 2)]])
        self.assertEqual(lots(agreement(), (0, 0)), [[(0, 0), (1, 0)]])
        self.assertEqual(lots(agreement(), (0, 1)), [[(0, 0), (1, 0)], [(0, 1), (1, 1)]])
        self.assertEqual(lots(apart(2), (0, 0)), [[(0, 0), (1, 1)], [(0, 1), (1, 0)]])

    def test_by_their_first_points_and_not_by_their_ties(self):
        task = Task([[[0]], [[0]]], {(0, 0): [(2, 63), (10, 0), (11, 5)]})
        self.assertEqual(lots(task, (0, 0)), [[(0, 2), (1, 63)], [(0, 10), (1, 0)], [(0, 11), (1, 5)]])
        task = Task([[[0]], [[0]]], {(0, 0): [(0, 9), (5, 1), (7, 9), (8, 1)]})
        self.assertEqual(lots(task, (0, 0)), [[(0, 0), (0, 7), (1, 9)], [(0, 5), (0, 8), (1, 1)]])

    def test_just_the_points_and_ties_within_a_lot_alone(self):
        for task in tasks():
            for pair, let in task.both.items():
                told = lots(task, pair)
                points = [point for lot in told for point in lot]
                self.assertEqual(sorted(points), sorted({(hand, out[hand]) for out in let for hand in (0, 1)}))
                self.assertEqual(told, sorted(sorted(lot) for lot in told))
                lot_of = {point: at for at, lot in enumerate(told) for point in lot}
                for x, y in points:
                    for other in range(7):
                        if x == 0:
                            same = lot_of[0, y] == lot_of.get((1, other))
                            self.assertEqual(far(task, pair, y, other) is not None, same)

    def test_lists_of_the_askers_own(self):
        task = sample()
        first = lots(task, (0, 0))
        want = copy.deepcopy(first)
        first[0].append("changed")
        first.pop()
        self.assertEqual(lots(task, (0, 0)), want)
        self.assertEqual(task, sample())

    def test_what_is_no_pair(self):
        task = sample()
        for pair in NO_PAIRS:
            with self.subTest(pair=repr(pair)), self.assertRaises(NoInputs):
                lots(task, pair)
        self.assertEqual(task, sample())


class Far(unittest.TestCase):
    def test_by_hand(self):
        task = sample()
        for x, y, want in [(0, 0, 1), (1, 0, 1), (0, 1, 3), (2, 0, 3), (0, 2, 5), (3, 2, 1), (3, 1, 3), (3, 0, 5)]:
            self.assertEqual(far(task, (1, 0), x, y), want)
        for x, y, want in [(0, 3, 1), (0, 0, 3), (9, 0, 1), (1, 1, 1), (2, 2, 3), (0, 1, None), (2, 3, None)]:
            self.assertEqual(far(task, (0, 0), x, y), want)
        self.assertEqual(far(task, (0, 1), 0, 2), 3)

    def test_ends_of_near(self):
        told = [far(near(n), (0, 1), 0, n) for n in range(1, 8)]
        self.assertEqual(told, [1, 3, 3, 5, 5, 7, 7])
        self.assertEqual([far(near(n), (1, 0), n, 0) for n in range(1, 8)], told)
        self.assertEqual(far(near(7), (0, 0), 0, 7), None)

    def test_a_long_row(self):
        row = sorted([(x, x) for x in range(20)] + [(x + 1, x) for x in range(19)])
        task = Task([[[0]], [[0]]], {(0, 0): row})
        self.assertEqual(far(task, (0, 0), 0, 19), 39)
        self.assertEqual(far(task, (0, 0), 19, 0), 37)
        self.assertEqual(walk(task, (0, 0), 0, 19), [at // 2 for at in range(40)])

    def test_what_is_no_point(self):
        task = sample()
        for none in [4, 8, 63, 64, -1, -2, 10 ** 59, -(10 ** 59)]:
            self.assertIsNone(far(task, (1, 0), none, 0))
            self.assertIsNone(far(task, (1, 0), 0, none))
            self.assertIsNone(far(task, (1, 0), none, none))
        # A point of the one hand is none of the other.
        self.assertIsNone(far(task, (1, 0), 0, 3))
        self.assertIsNone(far(task, (0, 1), 2, 0))
        # An output let alone is none, where it stands in no pair let.
        self.assertIsNone(far(task, (0, 1), 0, 5))

    def test_as_reckoned_tie_by_tie(self):
        for task in tasks():
            for pair, let in task.both.items():
                for x, y in itertools.product(range(-1, 8), repeat=2):
                    told = far(task, pair, x, y)
                    self.assertEqual(told, fewest(let, x, y))
                    self.assertTrue(told is None or told % 2 == 1)

    def test_what_is_no_pair(self):
        task = sample()
        for pair in NO_PAIRS:
            with self.subTest(pair=repr(pair)), self.assertRaises(NoInputs):
                far(task, pair, 0, 0)
            with self.assertRaises(NoInputs):
                far(task, pair, -1, 99)


class Walk(unittest.TestCase):
    def goes(self, task, pair, x, y, told):
        """Whether what is told goes from x to y by ties."""
        ends = told[0] == x and told[-1] == y and len(told) % 2 == 0
        steps = [(told[at], told[at + 1])[:: 1 if at % 2 == 0 else -1] for at in range(len(told) - 1)]
        return ends and all(step in task.both[pair] for step in steps)

    def test_by_hand(self):
        task = sample()
        self.assertEqual(walk(task, (1, 0), 0, 0), [0, 0])
        self.assertEqual(walk(task, (1, 0), 0, 2), [0, 0, 1, 1, 2, 2])
        self.assertEqual(walk(task, (1, 0), 3, 0), [3, 2, 2, 1, 1, 0])
        self.assertEqual(walk(task, (0, 0), 0, 0), [0, 3, 9, 0])
        self.assertEqual(walk(task, (0, 0), 2, 2), [2, 1, 1, 2])
        self.assertEqual(walk(near(7), (0, 1), 0, 7), [0, 1, 2, 3, 4, 5, 6, 7])

    def test_left_out_is_as_few_as_can_be(self):
        for task in tasks():
            for pair in task.both:
                for x, y in itertools.product(range(7), repeat=2):
                    told, want = walk(task, pair, x, y), far(task, pair, x, y)
                    self.assertEqual(told, walk(task, pair, x, y, many=None))
                    if want is None:
                        self.assertIsNone(told)
                    else:
                        self.assertEqual(len(told), want + 1)
                        self.assertTrue(self.goes(task, pair, x, y, told))

    def test_so_many_ties(self):
        for task in tasks()[:60]:
            for pair in task.both:
                for x, y in itertools.product(range(5), repeat=2):
                    want = far(task, pair, x, y)
                    for many in [1, 2, 3, 4, 5, 6, 7, 9, 27, 28]:
                        told = walk(task, pair, x, y, many=many)
                        if want is None or many < want or many % 2 == 0:
                            self.assertIsNone(told)
                        else:
                            self.assertEqual(len(told), many + 1)
                            self.assertTrue(self.goes(task, pair, x, y, told))

    def test_to_and_fro_by_the_one_tie_there_is(self):
        task = agreement()
        self.assertEqual(walk(task, (0, 0), 0, 0, many=1), [0, 0])
        self.assertEqual(walk(task, (0, 1), 1, 1, many=5), [1] * 6)
        lone = Task([[[2]], [[5]]], {(0, 0): [(2, 5)]})
        self.assertEqual(walk(lone, (0, 0), 2, 5, many=7), [2, 5, 2, 5, 2, 5, 2, 5])

    def test_as_many_as_999(self):
        for x, y, pair in [(0, 2, (1, 0)), (3, 0, (1, 0)), (0, 0, (0, 0)), (1, 2, (0, 1))]:
            for many in [997, 999]:
                told = walk(sample(), pair, x, y, many=many)
                self.assertEqual(len(told), many + 1)
                self.assertTrue(self.goes(sample(), pair, x, y, told))
            self.assertIsNone(walk(sample(), pair, x, y, many=998))

    def test_fewer_than_can_be(self):
        task = sample()
        for many in [1, 2, 3, 4]:
            self.assertIsNone(walk(task, (1, 0), 0, 2, many=many))
        self.assertEqual(walk(task, (1, 0), 0, 2, many=5), [0, 0, 1, 1, 2, 2])

    def test_no_way_and_no_point(self):
        task = sample()
        for x, y in [(0, 1), (2, 3), (4, 0), (0, 4), (-1, 0), (0, -1), (64, 0), (10 ** 59, 10 ** 59), (-(10 ** 59), 0)]:
            for many in [None, 1, 2, 3, 999]:
                self.assertIsNone(walk(task, (0, 0), x, y, many=many))

    def test_lists_of_the_askers_own(self):
        task = sample()
        for many in [None, 1, 5]:
            first = walk(task, (1, 0), 0, 0, many=many)
            want = list(first)
            first.append("changed")
            first[0] = "changed"
            self.assertEqual(walk(task, (1, 0), 0, 0, many=many), want)
        self.assertEqual(task, sample())

    def test_what_is_no_pair(self):
        task = sample()
        for pair in NO_PAIRS:
            with self.subTest(pair=repr(pair)), self.assertRaises(NoInputs):
                walk(task, pair, 0, 0)
            with self.assertRaises(NoInputs):
                walk(task, pair, 0, 0, many=3)

    def test_what_is_no_number_of_ties(self):
        task = sample()
        for many in NO_MANY:
            with self.subTest(many=repr(many)), self.assertRaises(NoRounds):
                walk(task, (0, 0), 0, 3, many=many)
            with self.assertRaises(NoRounds):
                walk(task, (0, 0), -1, 99, many=many)

    def test_a_pair_that_is_none_ahead_of_a_number_that_is_none(self):
        for pair in NO_PAIRS:
            for many in [0, 1000, True, "1", [], {}]:
                with self.assertRaises(NoInputs):
                    walk(sample(), pair, 0, 0, many=many)
