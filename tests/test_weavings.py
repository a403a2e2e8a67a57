import copy
import itertools
import math
import unittest

from tests.things import odd_things
from twoalone.errors import NoInputs, NoRounds, NoWeaving
from twoalone.weavings import known, weavings

NO_ROUNDS = [-1, 6, 7, 10 ** 60, -(10 ** 60)]
NO_INPUTS = [
    0, (0,), (0, 0, 0), [0, 0], (-1, 0), (0, -1), (True, 0), (0, False), (0, None), ("0", 0), (0, 1.0),
    ([], 0), ((0, 0), 0), "00",
]
NO_WEAVING = [
    0, (0, 1), (0, 0, 1, 1), "01", {0: 1}, [2], [-1], [True], [0, False], [None], ["0"], [0.0], [[0]], [[]], [{}],
    [(0, 1)], [0, 0, 0], [1, 1, 1], [0, 1, 0, 1, 0], [1, 0, 1, 0, 1], [0, 0, 1, 1, 2],
]


def reckoned(inputs, weaving, rounds):
    """What known tells, told otherwise: each step by its number among those of its hand."""
    knows, cells, done = dict(enumerate(inputs)), {}, {0: 0, 1: 0}
    for hand in weaving:
        at, looks = divmod(done[hand], 2)
        if looks:
            knows[hand] = (knows[hand], cells.get((1 - hand, at)))
        else:
            cells[hand, at] = knows[hand]
        done[hand] += 1
    return [knows[hand] if done[hand] == 2 * rounds else None for hand in (0, 1)]


class Known(unittest.TestCase):
    def told(self, weaving, rounds, want):
        with self.subTest(weaving=weaving):
            self.assertEqual(known((4, 7), weaving, rounds=rounds), want)

    def test_no_rounds(self):
        self.told([], 0, [4, 7])

    def test_one_round(self):
        self.told([0, 0, 1, 1], 1, [(4, None), (7, 4)])
        self.told([1, 1, 0, 0], 1, [(4, 7), (7, None)])
        for weaving in [[0, 1, 0, 1], [0, 1, 1, 0], [1, 0, 0, 1], [1, 0, 1, 0]]:
            self.told(weaving, 1, [(4, 7), (7, 4)])

    def test_two_rounds(self):
        self.told([0, 0, 0, 0, 1, 1, 1, 1], 2, [((4, None), None), ((7, 4), (4, None))])
        self.told([1, 1, 1, 1, 0, 0, 0, 0], 2, [((4, 7), (7, None)), ((7, None), None)])
        self.told([0, 1, 0, 1, 1, 0, 0, 1], 2, [((4, 7), (7, 4)), ((7, 4), (4, 7))])
        self.told([0, 0, 1, 1, 1, 1, 0, 0], 2, [((4, None), (7, 4)), ((7, 4), None)])

    def test_five_rounds_of_one_that_meets_nobody(self):
        self.told([0] * 10, 5, [(((((4, None), None), None), None), None), None])
        self.told([1] * 10, 5, [None, (((((7, None), None), None), None), None)])

    def test_a_hand_that_stops_knows_nothing_in_the_end(self):
        self.told([], 1, [None, None])
        self.told([0], 1, [None, None])
        self.told([0, 1], 1, [None, None])
        self.told([0, 0], 1, [(4, None), None])
        self.told([0, 0], 2, [None, None])
        self.told([0, 1, 1], 1, [None, (7, 4)])
        self.told([1, 0, 0], 1, [(4, 7), None])

    def test_what_a_hand_put_ahead_of_stopping_is_seen(self):
        self.told([0, 0, 0, 1, 1, 1, 1], 2, [None, ((7, 4), (4, None))])
        self.told([1, 1, 0, 0, 0, 0, 1], 2, [((4, 7), None), None])
        self.told([1, 1, 0, 0, 1, 0, 0], 2, [((4, 7), (7, None)), None])

    def test_all_weavings_and_what_is_left_where_they_break_off(self):
        for rounds in [0, 1, 2]:
            for whole in weavings(rounds):
                for end in range(len(whole) + 1):
                    weaving = whole[:end]
                    self.assertEqual(known((0, 1), weaving, rounds=rounds), reckoned((0, 1), weaving, rounds))

    def test_long_weavings(self):
        for rounds in [3, 4, 5]:
            for block in [[0, 1], [0, 0, 1], [0, 1, 1], [0, 0, 0, 1, 1, 1], [1, 1, 1, 0]]:
                steps = {0: 2 * rounds, 1: 2 * rounds}
                weaving = []
                for hand in block * 4 * rounds:
                    if steps[hand]:
                        weaving.append(hand)
                        steps[hand] -= 1
                self.assertEqual(known((2, 3), weaving, rounds=rounds), reckoned((2, 3), weaving, rounds))

    def test_any_inputs_from_nought_on(self):
        self.assertEqual(known((0, 10 ** 59), [], rounds=0), [0, 10 ** 59])
        self.assertEqual(known((5, 5), [1, 1], rounds=1), [None, (5, None)])

    def test_what_is_told_is_a_list_of_the_askers_own(self):
        for weaving, rounds in [([], 0), ([0, 0, 1, 1], 1)]:
            first = known((0, 1), weaving, rounds=rounds)
            self.assertIsInstance(first, list)
            want = list(first)
            first[0] = "changed"
            first.append("more")
            self.assertEqual(known((0, 1), weaving, rounds=rounds), want)

    def test_a_number_of_rounds_that_is_none(self):
        for rounds in [*odd_things(), *NO_ROUNDS]:
            with self.subTest(rounds=repr(rounds)), self.assertRaises(NoRounds):
                known((0, 1), [], rounds=rounds)

    def test_inputs_that_are_none(self):
        for inputs in [*odd_things(), *NO_INPUTS]:
            with self.subTest(inputs=repr(inputs)), self.assertRaises(NoInputs):
                known(inputs, [], rounds=1)

    def test_a_weaving_that_is_none(self):
        for weaving in [*[thing for thing in odd_things() if thing != []], *NO_WEAVING]:
            with self.subTest(weaving=repr(weaving)), self.assertRaises(NoWeaving):
                known((0, 1), weaving, rounds=1)

    def test_a_hand_stands_there_twice_a_round_at_most(self):
        for rounds in range(6):
            for hand in (0, 1):
                most = [hand] * (2 * rounds)
                known((0, 1), most, rounds=rounds)
                with self.subTest(rounds=rounds), self.assertRaises(NoWeaving):
                    known((0, 1), [*most, hand], rounds=rounds)

    def test_of_several_refusals_the_one_told_first(self):
        with self.assertRaises(NoRounds):
            known((0, 1), [0], rounds=6)
        with self.assertRaises(NoRounds):
            known(None, [], rounds=True)
        with self.assertRaises(NoRounds):
            known([], {}, rounds=[])
        with self.assertRaises(NoInputs):
            known([0, 1], [0], rounds=0)
        with self.assertRaises(NoInputs):
            known((True, 1), None, rounds=1)

    def test_nothing_handed_in_is_changed(self):
        for weaving, rounds in [([0, 1, 0, 1], 1), ([0, 1, 0], 1), ([0, 0, 0], 1), ([0, 2], 1), ([[0], []], 1)]:
            before = copy.deepcopy(weaving)
            for inputs in [(0, 1), (0, -1)]:
                try:
                    known(inputs, weaving, rounds=rounds)
                except (NoInputs, NoWeaving):
                    pass
                self.assertEqual(weaving, before)
        inputs = [[0], 1]
        with self.assertRaises(NoInputs):
            known(inputs, [], rounds=0)
        self.assertEqual(inputs, [[0], 1])


class Weavings(unittest.TestCase):
    def test_none_and_one(self):
        self.assertEqual(weavings(0), [[]])
        one = [[0, 0, 1, 1], [0, 1, 0, 1], [0, 1, 1, 0], [1, 0, 0, 1], [1, 0, 1, 0], [1, 1, 0, 0]]
        self.assertEqual(weavings(1), one)

    def test_as_many_as_there_are_ways_sorted_each_once(self):
        for rounds, many in [(0, 1), (1, 6), (2, 70), (3, 924)]:
            told = weavings(rounds)
            self.assertEqual(len(told), many)
            self.assertEqual(many, math.comb(4 * rounds, 2 * rounds))
            self.assertTrue(all(told[at] < told[at + 1] for at in range(many - 1)))

    def test_just_those_in_which_nobody_stops(self):
        for rounds in range(4):
            every = itertools.product((0, 1), repeat=4 * rounds)
            want = [list(hands) for hands in every if sum(hands) == 2 * rounds]
            self.assertEqual(weavings(rounds), want)

    def test_each_can_be_handed_in(self):
        for weaving in weavings(2):
            self.assertNotIn(None, known((0, 1), weaving, rounds=2))

    def test_what_is_told_is_a_list_of_lists_of_the_askers_own(self):
        for rounds in range(3):
            first = weavings(rounds)
            want = copy.deepcopy(first)
            self.assertEqual(len({id(weaving) for weaving in first}), len(first))
            for weaving in first:
                weaving.append("changed")
            first.pop()
            self.assertEqual(weavings(rounds), want)

    def test_a_number_of_rounds_that_is_none(self):
        for rounds in [*odd_things(), *NO_ROUNDS, 4, 5]:
            with self.subTest(rounds=repr(rounds)), self.assertRaises(NoRounds):
                weavings(rounds)
