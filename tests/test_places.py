import copy
import itertools
import reprlib
import unittest

from tests.things import broken_off, odd_things
from twoalone.errors import NoHand, NoKnown
from twoalone.places import place
from twoalone.weavings import known, weavings

# What may happen in one round: hand 0 alone sees nothing, both see, hand 1 alone sees nothing.
BLOCKS = ([0, 0, 1, 1], [0, 1, 0, 1], [1, 1, 0, 0])
NO_HANDS = [*odd_things(), -1, 2, 10 ** 60, [0], (0,), {0: 0}, "1"]


def deep(thing, rounds):
    """What a hand knows behind so many more rounds in which it saw nothing."""
    for at in range(rounds):
        thing = (thing, None)
    return thing


def row_of(rounds, inputs=(4, 7)):
    """By the places, what stands there, as the weavings of so many rounds of these blocks bring it."""
    found = {}
    for blocks in itertools.product(BLOCKS, repeat=rounds):
        for hand, thing in enumerate(known(inputs, sum(blocks, []), rounds=rounds)):
            found.setdefault(place(thing, hand), set()).add((hand, thing))
    return found


def all_known(rounds, inputs):
    """All that hand 0 and all that hand 1 may know behind so many rounds, from any of these inputs."""
    found = (set(), set())
    for pair in itertools.product(inputs, repeat=2):
        for weaving in broken_off(rounds):
            for hand, thing in enumerate(known(pair, weaving, rounds=rounds)):
                if thing is not None:
                    found[hand].add(thing)
    return found


class Places(unittest.TestCase):
    def test_no_rounds(self):
        for thing in [0, 1, 7, 10 ** 59]:
            self.assertEqual(place(thing, 0), 0)
            self.assertEqual(place(thing, 1), 1)

    def test_one_round(self):
        self.assertEqual(place((4, None), 0), 0)
        self.assertEqual(place((7, 4), 1), 1)
        self.assertEqual(place((4, 7), 0), 2)
        self.assertEqual(place((7, None), 1), 3)
        self.assertEqual(place((4, 4), 0), 2)
        self.assertEqual(place((4, 4), 1), 1)

    def test_two_rounds(self):
        row = [
            ((4, None), None), ((7, 4), (4, None)), ((4, None), (7, 4)), ((7, 4), None), ((4, 7), (7, 4)),
            ((7, 4), (4, 7)), ((4, 7), None), ((7, None), (4, 7)), ((4, 7), (7, None)), ((7, None), None),
        ]
        for at, thing in enumerate(row):
            with self.subTest(thing=thing):
                self.assertEqual(place(thing, at % 2), at)

    def test_three_rounds(self):
        self.assertEqual(place((((4, None), None), None), 0), 0)
        self.assertEqual(place((((7, 4), None), None), 1), 9)
        self.assertEqual(place((((4, 7), (7, 4)), ((7, 4), (4, 7))), 0), 14)
        self.assertEqual(place((((4, 7), (7, 4)), ((7, 4), None)), 0), 10)
        self.assertEqual(place((((7, None), (4, 7)), ((4, 7), (7, None))), 1), 23)
        self.assertEqual(place((((7, None), None), ((4, 7), (7, None))), 1), 25)

    def test_by_weavings_of_none_to_five_rounds(self):
        for rounds in range(6):
            last = 3 ** rounds
            places = [place(thing, hand) for hand, thing in enumerate(known((4, 7), BLOCKS[0] * rounds, rounds=rounds))]
            self.assertEqual(places, [0, 1])
            ahead = known((4, 7), [1] * (2 * rounds) + [0] * (2 * rounds), rounds=rounds)
            self.assertEqual([place(ahead[0], 0), place(ahead[1], 1)], [last - 1, last])
        beside = [known((4, 7), [0, 1, 0, 1] * rounds, rounds=rounds) for rounds in range(6)]
        self.assertEqual([place(both[0], 0) for both in beside], [0, 2, 4, 14, 40, 122])
        self.assertEqual([place(both[1], 1) for both in beside], [1, 1, 5, 13, 41, 121])
        # Places (0, 1), then (0, 1), (2, 3), (8, 7), (22, 21) and (66, 65).
        turns = known((4, 7), [*BLOCKS[0], *BLOCKS[2], *BLOCKS[1], *BLOCKS[2], *BLOCKS[0]], rounds=5)
        self.assertEqual([place(turns[0], 0), place(turns[1], 1)], [66, 65])

    def test_a_hand_whose_other_stopped(self):
        self.assertEqual(place(known((4, 7), [0, 0, 0, 1, 1, 1, 1], rounds=2)[1], 1), 1)
        self.assertEqual(place(known((4, 7), [0, 0, 1, 1, 1, 1], rounds=2)[1], 1), 3)
        self.assertEqual(place(known((4, 7), [1, 1, 0, 0, 1, 0, 0], rounds=2)[0], 0), 8)
        self.assertEqual(place(known((4, 7), [1, 0, 0, 0, 0], rounds=2)[0], 0), 6)

    def test_each_place_from_end_to_end_has_one_thing(self):
        for rounds in range(6):
            row = row_of(rounds)
            self.assertEqual(sorted(row), list(range(3 ** rounds + 1)))
            for at, things in row.items():
                self.assertEqual([hand for hand, thing in things], [at % 2])

    def test_neighbours_behind_one_weaving_and_all_neighbours_behind_some(self):
        for rounds in range(4):
            found = set()
            for weaving in weavings(rounds):
                ours, theirs = known((4, 7), weaving, rounds=rounds)
                at, other = place(ours, 0), place(theirs, 1)
                self.assertEqual((at % 2, other % 2, abs(at - other)), (0, 1, 1))
                found.add(min(at, other))
            self.assertEqual(found, set(range(3 ** rounds)))

    def test_who_stands_at_an_end_saw_nothing(self):
        for rounds in range(1, 6):
            row = row_of(rounds)
            self.assertEqual(row[0], {(0, deep(4, rounds))})
            self.assertEqual(row[3 ** rounds], {(1, deep(7, rounds))})

    def test_places_do_not_hang_on_which_inputs(self):
        for rounds in range(4):
            for weaving in broken_off(rounds) if rounds < 3 else weavings(rounds):
                told = [known(inputs, weaving, rounds=rounds) for inputs in [(0, 0), (3, 9), (9, 3)]]
                for hand in (0, 1):
                    places = [None if both[hand] is None else place(both[hand], hand) for both in told]
                    self.assertEqual(len(set(places)), 1)


class NeverKnown(unittest.TestCase):
    def refused(self, thing, hands=(0, 1)):
        for hand in hands:
            with self.subTest(thing=reprlib.repr(thing), hand=hand), self.assertRaises(NoKnown):
                place(thing, hand)

    def test_just_what_the_weavings_bring(self):
        inputs = (0, 1)
        every = [all_known(rounds, inputs) for rounds in range(3)]
        things = [None, *[thing for both in every for hand in both for thing in hand]]
        tried = 0
        for rounds in (1, 2):
            for hand in (0, 1):
                for own in every[rounds - 1][hand]:
                    for seen in things:
                        tried += 1
                        if (own, seen) in every[rounds][hand]:
                            place((own, seen), hand)
                        else:
                            self.refused((own, seen), [hand])
        self.assertGreater(tried, 300)

    def test_things_of_any_sort(self):
        for thing in [*odd_things(), -1, -(10 ** 59), [4, None], [4, 7], (4,), (4, 7, None), {4: 7}, (4, [7]), (4, {})]:
            self.refused(thing)

    def test_things_of_any_sort_within(self):
        for thing in [*odd_things(), -1]:
            self.refused((thing, None))
            self.refused((thing, 4))
            self.refused(((4, thing), None) if thing is not None else (-1, None))
            self.refused((4, thing) if thing is not None else (-1, 4))
            self.refused(((4, None), (7, thing) if thing is not None else (7, -1)))

    def test_tuples_of_one_and_of_three(self):
        for thing in [(7,), (7, 4, 4), (7, 4, None), ()]:
            self.refused(thing)
            self.refused((thing, None))
            self.refused(((4, 7), thing), [0])
            self.refused((((4, 7), None), (thing, None)), [0])
            self.refused((((4, 7), (7, 4)), ((7, 4), thing)), [0])

    def test_truths_are_no_inputs(self):
        for thing in [True, False, (True, None), (1, True), (0, False), ((1, 0), (False, None))]:
            self.refused(thing)

    def test_a_thing_seen_that_is_not_one_round_less_deep(self):
        self.refused((4, (7, None)))
        self.refused((4, (7, 4)))
        self.refused(((4, None), 7))
        self.refused(((4, 7), 7))
        self.refused((((4, 7), None), (7, 4)))
        self.refused(((4, 7), ((7, 4), None)))

    def test_a_thing_seen_that_is_no_neighbour(self):
        # Hand 0 at place 0 of 3 beside hand 1 at 3, and the other way about.
        self.refused(((4, None), (7, None)))
        self.refused((((4, None), None), ((7, 4), None)))
        self.refused((((4, 7), None), ((7, 4), None)))

    def test_a_thing_seen_of_the_same_hand(self):
        # Behind two rounds hand 0 knows this; hand 1 that put it would stand elsewhere.
        self.assertEqual(place(((4, 7), (7, None)), 0), 8)
        self.refused(((4, 7), (4, None)), [0])
        self.assertEqual(place(((7, 4), (4, None)), 1), 1)
        self.refused(((7, 4), (7, None)), [1])

    def test_inputs_that_differ_within(self):
        self.refused(((4, 7), (8, 4)))
        self.refused(((4, 7), (7, 5)))
        self.refused(((4, 7), (8, None)), [0])
        self.refused(((4, None), (7, 5)), [0])
        self.refused(((7, None), (4, 8)), [1])
        self.refused(((7, 4), (5, None)), [1])
        self.refused((((4, 7), (7, 4)), ((7, 4), (4, 8))))
        self.refused((((4, None), (7, 4)), ((8, 4), (4, None))), [0])
        self.refused((((4, None), (7, 4)), ((7, 5), (5, None))), [0])
        self.refused((((4, None), None), ((7, 5), (5, None))), [0])
        self.refused((((7, None), None), ((4, 8), (8, None))), [1])

    def test_six_rounds_are_too_many(self):
        for hand in (0, 1):
            self.assertEqual(place(deep(4, 5), hand), hand * 243)
            self.refused(deep(4, 6), [hand])
            self.refused(deep(4, 7), [hand])
        seen = known((4, 7), [0, 1, 0, 1] * 5, rounds=5)
        self.assertEqual((place(seen[0], 0), place(seen[1], 1)), (122, 121))
        self.refused((seen[0], seen[1]), [0])
        self.refused((seen[1], seen[0]), [1])

    def test_very_deep_things(self):
        self.refused(deep(4, 100000))
        thing = 4
        for at in range(100000):
            thing = (7, thing)
        self.refused(thing)
        self.refused((deep(4, 4), deep(7, 100000)))

    def test_what_is_no_hand(self):
        for hand in NO_HANDS:
            with self.subTest(hand=repr(hand)), self.assertRaises(NoHand):
                place(4, hand)

    def test_what_is_no_hand_ahead_of_what_is_not_known(self):
        for hand in NO_HANDS:
            for thing in [None, [], -1, True, deep(4, 6), (4, [])]:
                with self.assertRaises(NoHand):
                    place(thing, hand)

    def test_nothing_handed_in_is_changed(self):
        for thing in [[4, [7]], (4, [7]), ((4, {"a": [1]}), None), {4: [7]}]:
            before = copy.deepcopy(thing)
            self.refused(thing)
            self.assertEqual(thing, before)

    def test_asked_again(self):
        for count in range(3):
            self.assertEqual(place((7, 4), 1), 1)
            self.refused((7, (4, 7)), [1])
