import copy
import unittest

from tests.things import broken_off, choices, no_pairs, odd_things, sample, saw_nothing, tasks
from twoalone.errors import NoInputs, NoProtocol, NoWeaving
from twoalone.protocols import protocol_fault, tell
from twoalone.tasks import Task, agreement, near
from twoalone.weavings import known, weavings
from twoalone.webs import walk


def of_one_round():
    """A protocol of the sample, without fault."""
    return (1, [[0, 2], [4, 6]], {(0, 0): [0, 1, 0, 4], (1, 0): [2, 1, 3, 4], (0, 1): [0, 6, 5, 6]})


def of_no_rounds():
    return (0, [[0, 2], [1, 6]], {(0, 0): [0, 1], (1, 0): [2, 1], (0, 1): [0, 6]})


def every_place(rounds):
    """A task in which all is let, and a protocol that tells another output at each place of 0 to 63."""
    every = [(x, y) for x in range(64) for y in range(64)]
    task = Task([[[62, 63]], [[62, 63]]], {(0, 0): every})
    row = [at % 60 for at in range(3 ** rounds + 1)]
    return task, (rounds, [[62], [63]], {(0, 0): row})


def by_choice(task, choice, rounds):
    """A protocol of so many rounds by this choice, None where there is none."""
    walks = {}
    for a, b in task.both:
        walks[a, b] = walk(task, (a, b), choice[0][a], choice[1][b], many=3 ** rounds)
    return None if None in walks.values() else (rounds, choice, walks)


def is_done(task, protocol, woven):
    """Whether behind these weavings what both tell is let, and what one that saw nothing tells is let alone."""
    for inputs in task.both:
        for weaving in woven:
            told = tell(task, protocol, inputs, weaving)
            knows = known(inputs, weaving, rounds=protocol[0])
            if None not in told and told not in task.both[inputs]:
                return False
            for hand in (0, 1):
                lone = told[hand] is not None and saw_nothing(knows[hand])
                if lone and told[hand] not in task.alone[hand][inputs[hand]]:
                    return False
    return True


def no_protocols():
    """All sorts of ways not to be a protocol of the form for the sample."""
    rounds, alone, walks = of_one_round()
    row = [0, 1, 0, 4]
    told = [*odd_things(), 1, (), (1,), (1, alone), (1, alone, walks, walks), [1, alone, walks], {1: alone}]
    told += [(other, alone, walks) for other in [*odd_things(), -1, 6, 0, 2, 5, 10 ** 59]]
    told += [(-1, alone, {pair: [0] * many for pair in walks}) for many in (1, 2, 4, 244)]
    told += [(1, other, walks) for other in [
        *odd_things(), 0, "ab", (alone[0], alone[1]), [[0, 2]], [[0, 2], [4, 6], [0]], [[0], [4, 6]], [[0, 2], [4]],
        [[0, 2, 0], [4, 6]], [[0, 2], [4, 6, 6]], [(0, 2), [4, 6]], [[0, 2], (4, 6)], {0: [0, 2], 1: [4, 6]},
        [[0, -1], [4, 6]], [[0, 64], [4, 6]], [[0, 2], [4, -1]], [[True, 2], [4, 6]], [[0, 2], [4, None]],
        [[0, 2], [4, "6"]], [[0, [2]], [4, 6]], [[0, {}], [4, 6]], [[False, 2], [4, 6]], [[0.0, 2], [4, 6]],
        [[0, 2], 4], [0, 2], [[], []], [[0, 2], None],
    ]]
    told += [(1, alone, other) for other in [
        *odd_things(), 0, "ab", list(walks.items()), [row, row, row], tuple(walks.values()), {"a": row},
        {pair: walks[pair] for pair in [(0, 0), (1, 0)]}, {**walks, (1, 1): row}, {**walks, (0, 2): row},
        {**walks, None: row}, {**walks, "01": row}, {(0, 0): row, (1, 0): row, (1, 1): row},
        {(0, 0): row, (1, 0): row, 0: row}, {(0, 0): row, (1, 0): row, (0, -1): row},
        {(0, 0): row, (1, 0): row, (0, 1, 0): row}, {(0, 0): row, (1, 0): row, (0, "1"): row},
        {(0, 0): row, (1, 0): row, frozenset([0, 1]): row},
    ]]
    told += [(1, alone, {**walks, (1, 0): other}) for other in [
        *odd_things(), 0, "abcd", (2, 1, 3, 4), [2, 1, 3], [2, 1, 3, 4, 3], [2, 4], {0: 2, 1: 1, 2: 3, 3: 4}, [],
        [2, 1, 3, -1], [2, 1, 64, 4], [2, True, 3, 4], [2, 1, 3, None], [2, 1, "3", 4], [[2], 1, 3, 4], [2, 1, 3.0, 4],
        [2, 1, {}, 4], [(2, 1), (3, 4), 0, 0], [2, 10 ** 59, 3, 4],
    ]]
    return told


class Tell(unittest.TestCase):
    def told(self, weaving, inputs, want, protocol=None):
        protocol = of_one_round() if protocol is None else protocol
        with self.subTest(weaving=weaving, inputs=inputs):
            told = tell(sample(), protocol, inputs, weaving)
            self.assertIsInstance(told, tuple)
            self.assertEqual(told, want)

    def test_no_rounds(self):
        self.told([], (0, 0), (0, 1), of_no_rounds())
        self.told([], (1, 0), (2, 1), of_no_rounds())
        self.told([], (0, 1), (0, 6), of_no_rounds())

    def test_both_do_all_their_steps(self):
        self.told([0, 0, 1, 1], (1, 0), (2, 1))
        self.told([0, 1, 1, 0], (1, 0), (3, 1))
        self.told([1, 0, 0, 1], (1, 0), (3, 1))
        self.told([1, 1, 0, 0], (1, 0), (3, 4))
        self.told([0, 1, 0, 1], (0, 0), (0, 1))
        self.told([0, 1, 0, 1], (0, 1), (5, 6))

    def test_one_stops_ahead(self):
        self.told([0, 0], (1, 0), (2, None))
        self.told([1, 1], (1, 0), (None, 4))
        self.told([0, 1, 1], (1, 0), (None, 1))
        self.told([1, 0, 0], (1, 0), (3, None))
        self.told([0, 0, 1], (0, 1), (0, None))
        self.told([1, 1, 0], (0, 1), (None, 6))

    def test_both_stop_ahead(self):
        for weaving in [[], [0], [1], [0, 1], [1, 0]]:
            self.told(weaving, (1, 0), (None, None))

    def test_each_place_of_many_rounds(self):
        # A place that is None is an end.
        for rounds, weaving, ours, theirs in [
            (2, [0] * 4 + [1] * 4, None, 1), (2, [1] * 4 + [0] * 4, 8, None), (2, [0, 1, 0, 1] * 2, 4, 5),
            (3, [0, 1, 0, 1] * 3, 14, 13), (4, [0, 1, 0, 1] * 4, 40, 41), (5, [0, 1, 0, 1] * 5, 122, 121),
            (5, [0] * 10 + [1] * 10, None, 1), (5, [1] * 10 + [0] * 10, 242, None),
        ]:
            task, protocol = every_place(rounds)
            want = (62 if ours is None else ours % 60, 63 if theirs is None else theirs % 60)
            self.assertEqual(tell(task, protocol, (0, 0), weaving), want)

    def test_who_saw_nothing_tells_what_alone_has_though_the_walk_has_another(self):
        rounds, alone, walks = of_one_round()
        other = (1, [[5, 2], [1, 6]], {**walks, (1, 0): [9, 1, 3, 9]})
        self.told([0, 0, 1, 1], (1, 0), (2, 1), other)
        self.told([1, 1, 0, 0], (1, 0), (3, 1), other)
        self.told([0, 0, 1, 1], (0, 0), (5, 1), other)
        zero = (0, [[5, 2], [4, 6]], {(0, 0): [0, 1], (1, 0): [9, 9], (0, 1): [0, 6]})
        self.told([], (0, 0), (5, 4), zero)
        self.told([], (1, 0), (2, 4), zero)

    def test_outputs_that_are_not_let_are_told_all_the_same(self):
        rounds, alone, walks = of_one_round()
        other = (1, [[63, 0], [0, 63]], {**walks, (0, 1): [0, 33, 44, 0]})
        self.told([0, 1, 0, 1], (0, 1), (44, 33), other)
        self.told([0, 0, 1, 1], (0, 1), (63, 33), other)

    def test_no_protocol(self):
        task = sample()
        for protocol in no_protocols():
            with self.subTest(protocol=repr(protocol)), self.assertRaises(NoProtocol):
                tell(task, protocol, (0, 0), [])

    def test_a_protocol_of_another_task(self):
        for task in [agreement(), near(3), Task([[[0]], [[0]]], {(0, 0): [(0, 0)]})]:
            with self.assertRaises(NoProtocol):
                tell(task, of_one_round(), (0, 0), [])

    def test_no_pair(self):
        for inputs in no_pairs():
            with self.subTest(inputs=repr(inputs)), self.assertRaises(NoInputs):
                tell(sample(), of_one_round(), inputs, [])

    def test_no_weaving(self):
        for weaving in [
            *[thing for thing in odd_things() if thing != []], 0, "01", (0, 1), {0: 1}, [2], [-1], [True], [0, False],
            [None], ["0"], [0.0], [[0]], [{}], [0, 0, 0], [1, 1, 1], [0, 1, 0, 1, 0], [0, 0, 1, 1, 1],
        ]:
            with self.subTest(weaving=repr(weaving)), self.assertRaises(NoWeaving):
                tell(sample(), of_one_round(), (0, 0), weaving)
        for hand in (0, 1):
            with self.assertRaises(NoWeaving):
                tell(sample(), of_no_rounds(), (0, 0), [hand])

    def test_of_several_refusals_the_one_told_first(self):
        for protocol in [None, [], (0, [[0, 2], [1, 6]], {})]:
            for inputs in [(9, 9), (0, 0), None, []]:
                for weaving in [[0, 0, 0], None, []]:
                    with self.assertRaises(NoProtocol):
                        tell(sample(), protocol, inputs, weaving)
        for inputs in [(1, 1), None, [], True]:
            for weaving in [[0, 0, 0], None, [2], {}]:
                with self.assertRaises(NoInputs):
                    tell(sample(), of_one_round(), inputs, weaving)

    def test_nothing_handed_in_is_changed(self):
        task, protocol, weaving = sample(), of_one_round(), [0, 1, 0, 1]
        for count in range(2):
            self.assertEqual(tell(task, protocol, (1, 0), weaving), (3, 1))
        self.assertEqual((task, protocol, weaving), (sample(), of_one_round(), [0, 1, 0, 1]))
        self.assertEqual(list(task.both), list(sample().both))


class ProtocolFault(unittest.TestCase):
    def fault(self, thing, want, task=None):
        with self.subTest(thing=repr(thing)):
            before = copy.deepcopy(thing)
            self.assertEqual(protocol_fault(task or sample(), thing), want)
            self.assertEqual(thing, before)

    def test_none(self):
        self.fault(of_one_round(), None)
        self.fault(of_no_rounds(), None)
        self.fault((2, [[0], [1]], {(0, 0): [0, 1] * 5}), None, Task([[[0]], [[1]]], {(0, 0): [(0, 1)]}))

    def test_form_of_anything(self):
        task = sample()
        for thing in no_protocols():
            with self.subTest(thing=repr(thing)):
                self.assertEqual(protocol_fault(task, thing), ("form",))
        self.assertEqual(task, sample())

    def test_alone_the_first_by_hand_and_input(self):
        rounds, alone, walks = of_one_round()
        self.fault((1, [[1, 2], [4, 6]], walks), ("alone", 0, 0))
        self.fault((1, [[0, 0], [4, 6]], walks), ("alone", 0, 1))
        self.fault((1, [[0, 2], [6, 6]], walks), ("alone", 1, 0))
        self.fault((1, [[0, 2], [4, 63]], walks), ("alone", 1, 1))
        self.fault((1, [[0, 0], [6, 0]], walks), ("alone", 0, 1))
        self.fault((1, [[1, 0], [6, 0]], walks), ("alone", 0, 0))
        self.fault((1, [[0, 2], [0, 0]], walks), ("alone", 1, 0))

    def test_alone_ahead_of_ends_and_steps(self):
        rounds, alone, walks = of_one_round()
        self.fault((1, [[0, 2], [4, 5]], {**walks, (0, 0): [9, 9, 9, 9]}), ("alone", 1, 1))

    def test_ends(self):
        rounds, alone, walks = of_one_round()
        self.fault((1, alone, {**walks, (1, 0): [3, 1, 3, 4]}), ("ends", (1, 0)))
        self.fault((1, alone, {**walks, (1, 0): [2, 1, 3, 1]}), ("ends", (1, 0)))
        self.fault((1, alone, {**walks, (0, 1): [5, 6, 5, 6]}), ("ends", (0, 1)))
        self.fault((1, [[5, 2], [4, 6]], walks), ("ends", (0, 0)))
        self.fault((0, [[0, 2], [1, 6]], {(0, 0): [0, 4], (1, 0): [2, 1], (0, 1): [0, 6]}), ("ends", (0, 0)))
        self.fault((0, [[0, 2], [1, 6]], {(0, 0): [5, 1], (1, 0): [2, 1], (0, 1): [0, 6]}), ("ends", (0, 0)))

    def test_steps_at_even_and_odd_places(self):
        rounds, alone, walks = of_one_round()
        self.fault((1, alone, {**walks, (1, 0): [2, 4, 3, 4]}), ("step", (1, 0), 0))
        self.fault((1, alone, {**walks, (1, 0): [2, 1, 2, 4]}), ("step", (1, 0), 2))
        self.fault((1, alone, {**walks, (0, 0): [0, 1, 5, 4]}), ("step", (0, 0), 1))
        self.fault((1, alone, {**walks, (0, 1): [0, 7, 5, 6]}), ("step", (0, 1), 0))
        self.fault((0, [[0, 2], [4, 6]], {(0, 0): [0, 4], (1, 0): [2, 4], (0, 1): [0, 6]}), ("step", (1, 0), 0))

    def test_the_first_step_of_several(self):
        rounds, alone, walks = of_one_round()
        self.fault((1, alone, {**walks, (1, 0): [2, 1, 7, 4]}), ("step", (1, 0), 1))
        self.fault((1, alone, {**walks, (1, 0): [2, 7, 7, 4]}), ("step", (1, 0), 0))
        task = Task([[[0]], [[1]]], {(0, 0): [(0, 1), (2, 1)]})
        for at in range(1, 242):
            row = [0, 1] * 122
            row[at] = 3
            row[at + 2 - at % 2] = 9
            row[0], row[243] = 0, 1
            self.fault((5, [[0], [1]], {(0, 0): row}), ("step", (0, 0), at - 1), task)

    def test_ends_ahead_of_steps_of_the_same_pair(self):
        rounds, alone, walks = of_one_round()
        self.fault((1, alone, {**walks, (1, 0): [3, 9, 9, 4]}), ("ends", (1, 0)))
        self.fault((1, alone, {**walks, (1, 0): [2, 9, 9, 1]}), ("ends", (1, 0)))

    def test_pair_by_pair_sorted(self):
        rounds, alone, walks = of_one_round()
        step, ends = [0, 9, 9, 6], [5, 6, 5, 6]
        self.fault((1, alone, {**walks, (0, 1): step, (1, 0): [9, 9, 9, 9]}), ("step", (0, 1), 0))
        self.fault((1, alone, {**walks, (0, 1): ends, (0, 0): [0, 1, 9, 4]}), ("step", (0, 0), 1))
        self.fault((1, alone, {(1, 0): [9, 9, 9, 9], (0, 1): ends, (0, 0): walks[0, 0]}), ("ends", (0, 1)))
        self.fault((1, alone, {(1, 0): [9, 9, 9, 9], (0, 1): ends, (0, 0): [9, 9, 9, 9]}), ("ends", (0, 0)))

    def test_outputs_must_be_let_for_this_very_pair(self):
        # (0, 1) is let for the inputs (0, 1) alone, (1, 0) for (1, 0) alone.
        task = Task([[[0], [1]], [[0], [1]]], {(0, 1): [(0, 1)], (1, 0): [(1, 0)]})
        right = {(0, 1): [0, 1], (1, 0): [1, 0]}
        self.fault((0, [[0, 1], [0, 1]], right), None, task)
        wrong = {(0, 1): [0, 1, 0, 1], (1, 0): [1, 1, 0, 0]}
        self.fault((1, [[0, 1], [0, 1]], wrong), ("step", (1, 0), 0), task)


class Promise(unittest.TestCase):
    def test_without_fault_it_does_its_task_in_every_weaving(self):
        done = 0
        for task in [sample(), *tasks()[:70]]:
            for rounds in (0, 1, 2):
                for choice in choices(task)[:2]:
                    protocol = by_choice(task, choice, rounds)
                    if protocol is not None:
                        done += 1
                        self.assertIsNone(protocol_fault(task, protocol))
                        self.assertTrue(is_done(task, protocol, broken_off(rounds)))
        self.assertGreater(done, 50)

    def test_three_rounds(self):
        for task in [near(7), near(6), sample()]:
            protocol = by_choice(task, choices(task)[0], 3)
            self.assertIsNone(protocol_fault(task, protocol))
            self.assertTrue(is_done(task, protocol, weavings(3)))

    def test_a_fault_but_at_the_ends_is_shown_by_some_weaving(self):
        task = sample()
        for protocol in [of_no_rounds(), of_one_round(), by_choice(task, [[0, 2], [1, 6]], 2)]:
            for hand in (0, 1):
                for at in (0, 1):
                    for output in range(8):
                        self.shown(task, protocol, [1, hand, at], output)
            rounds, alone, walks = protocol
            for pair, row in walks.items():
                for at in range(len(row)):
                    for output in range(8):
                        self.shown(task, protocol, [2, pair, at], output)

    def shown(self, task, protocol, path, output):
        """With this output there, a weaving shows a fault just where protocol_fault tells one that is none of ends."""
        other = copy.deepcopy(protocol)
        other[path[0]][path[1]][path[2]] = output
        fault = protocol_fault(task, other)
        with self.subTest(protocol=other):
            if fault is None:
                self.assertTrue(is_done(task, other, broken_off(other[0])))
            elif fault[0] != "ends":
                self.assertFalse(is_done(task, other, broken_off(other[0])))
