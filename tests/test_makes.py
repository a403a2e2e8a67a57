import copy
import random
import unittest

from tests.things import drawn_task, odd_things
from twoalone.errors import NoMade, NoProtocol, TooMany
from twoalone.makes import made_fault, made_of, made_protocol
from twoalone.protocols import protocol_fault
from twoalone.rounds import least_rounds, protocol
from twoalone.tasks import Task, agreement, apart, joint, near, swapped


def other():
    """Two inputs of hand 0, one of hand 1; 3 comes in no pair of outputs, 6 and 9 are let alone to nobody."""
    return Task([[[0, 3], [1]], [[4]]], {(0, 0): [(0, 4), (0, 6), (2, 6)], (1, 0): [(1, 4), (9, 4)]})


def sample():
    """One input of hand 0, two of hand 1, neither of them with what other tells at input 0 of hand 0."""
    return Task([[[10, 11]], [[20], [20, 21]]], {(0, 0): [(10, 20), (12, 20)], (0, 1): [(10, 21), (11, 20), (12, 21)]})


def right():
    """The sample made of the other one, without fault."""
    return ([[1], [0, 0]], [{(0, 1): 10, (0, 9): 12}, {(0, 4): 20, (0, 6): 0, (1, 4): 21, (1, 6): 63}])


def halves():
    """near(2) made of near(4), without fault."""
    told = {0: 0, 1: 0, 2: 1, 3: 2, 4: 2}
    return ([[0, 1], [0, 1]], [{(at, x): told[x] for at in (0, 1) for x in range(5)} for hand in (0, 1)])


def of_near_4():
    """A protocol of near(4) of two rounds, without fault."""
    return (2, [[0, 4], [0, 4]], {
        (0, 0): [0] * 10, (0, 1): [0, 1, 1, 2, 2, 3, 3, 4, 4, 4], (1, 0): [4, 3, 2, 3, 2, 1, 0, 0, 1, 0], (1, 1): [4] * 10,
    })


def crosswise():
    """A task of two inputs each and one that is the same with hand 0's inputs exchanged, and what makes it of that."""
    task = Task([[[0], [1]], [[2], [3]]], {(0, 0): [(0, 2)], (0, 1): [(0, 3)], (1, 0): [(1, 2)]})
    another = Task([[[1], [0]], [[2], [3]]], {(1, 0): [(0, 2)], (1, 1): [(0, 3)], (0, 0): [(1, 2)]})
    return task, another, ([[1, 0], [0, 1]], [{(0, 0): 0, (1, 1): 1}, {(0, 2): 2, (1, 3): 3}])


def no_made():
    """All sorts of ways not to have the form of what makes the sample of the other one."""
    given, told = right()
    things = [*odd_things(), 0, (), (given,), (given, told, told), [given, told], {0: given, 1: told}, (told, given)]
    things += [(each, told) for each in [
        *odd_things(), 0, "ab", tuple(given), given[:1], [*given, [0]], [[1], [0]], [[1], [0, 0, 0]], [[1, 1], [0, 0]],
        [[], [0, 0]], [(1,), [0, 0]], [[1], (0, 0)], [{0: 1}, [0, 0]], ["1", [0, 0]], [1, [0, 0]], [[2], [0, 0]],
        [[-1], [0, 0]], [[1], [0, 1]], [[1], [1, 0]], [[True], [0, 0]], [[1], [False, 0]], [[1.0], [0, 0]],
        [[1], [0, None]], [["1"], [0, 0]], [[[1]], [0, 0]], [[1], [{}, 0]], [[10 ** 59], [0, 0]],
        # With another input given, other outputs have to be told.
        [[0], [0, 0]],
    ]]
    # Rows that are too short, too long, or count from the end, with just what would be told for them.
    things += [([[1], [0]], [told[0], {(0, 4): 20, (0, 6): 0}]), ([[1], []], [told[0], {}])]
    things += [([[1, 1], [0, 0]], [{**told[0], (1, 1): 10, (1, 9): 12}, told[1]]), ([[-1], [0, 0]], [{(0, 1): 10}, told[1]])]
    things += [(given, each) for each in [
        *odd_things(), 0, tuple(told), told[:1], [*told, told[0]], told[0], [told[1], told[0]],
        {0: told[0], 1: told[1]}, [list(told[0].items()), told[1]], [told[0], [20, 0, 21, 63]],
    ]]
    for each in [
        *odd_things(), 0, {}, {(0, 1): 10}, {(0, 9): 12}, {**told[0], (0, 0): 0}, {**told[0], (1, 1): 10},
        {**told[0], None: 0}, {(0, 1): 10, (0, 8): 12}, {(0, 1): 10, (1, 9): 12}, {(0, 1): 10, 9: 12},
        {(0, 1): 10, (0, 9, 0): 12}, {(0, 1): 10, "09": 12}, {(0, 1): 10, (0, "9"): 12}, {(0, 1): 10, (0, 9.0): 12},
        {(0, 1): 10, (0.0, 9): 12}, {(0, 1): 10, None: 12}, {(0, 1): 10, frozenset([0, 9]): 12}, {(0, 1): 10, (): 12},
        {(False, 1): 10, (0, 9): 12}, {(0, True): 10, (0, 9): 12},
        *[{(0, 1): 10, (0, 9): output} for output in [*odd_things(), -1, 64, 10 ** 59, "9", [12], (12,), 12.0]],
    ]:
        things += [(given, [each, told[1]])]
    for each in [
        {}, {**told[1], (0, 5): 0}, {**told[1], (2, 4): 0}, {key: told[1][key] for key in [(0, 4), (1, 4), (1, 6)]},
        *[{**told[1], (1, 6): output} for output in [*odd_things(), -1, 64]],
    ]:
        things += [(given, [told[0], each])]
    return things


class MadeFault(unittest.TestCase):
    def fault(self, thing, want, task=None, of=None):
        with self.subTest(thing=repr(thing)):
            before = copy.deepcopy(thing)
            self.assertEqual(made_fault(task or sample(), of or other(), thing), want)
            self.assertEqual(thing, before)

    def with_told(self, *changes):
        given, told = right()
        for hand, key, output in changes:
            told[hand][key] = output
        return (given, told)

    def test_none(self):
        self.fault(right(), None)
        self.fault(self.with_told((1, (0, 6), 63), (1, (1, 6), 5)), None)
        self.fault(halves(), None, near(2), near(4))
        task, another, thing = crosswise()
        self.fault(thing, None, task, another)
        for same in [near(3), agreement(), apart(2), other()]:
            rows = [range(same.inputs(hand)) for hand in (0, 1)]
            every = [range(64)] * 2
            told = [{(a, x): x for a in rows[h] for x in every[h] if self.is_told(same, h, a, x)} for h in (0, 1)]
            self.fault(([list(rows[0]), list(rows[1])], told), None, same, same)

    def is_told(self, task, hand, at, output):
        lone = output in task.alone[hand][at]
        return lone or any(pair[hand] == at and output in [each[hand] for each in task.both[pair]] for pair in task.both)

    def test_the_order_of_the_keys_is_no_matter(self):
        given, told = right()
        self.fault((given, [{key: each[key] for key in reversed(list(each))} for each in told]), None)

    def test_form_of_anything(self):
        task, of = sample(), other()
        for thing in no_made():
            with self.subTest(thing=repr(thing)):
                self.assertEqual(made_fault(task, of, thing), ("form",))
        self.assertEqual((task, of), (sample(), other()))

    def test_outputs_let_alone_and_in_pairs_have_to_be_told(self):
        # 3 is let alone only, 2 in a pair only, 6 in a pair with the other input of hand 0 only.
        given, told = right()
        self.fault(([[0], [0, 0]], [{(0, 0): 10, (0, 2): 12, (0, 3): 11}, told[1]]), ("both", (0, 0), (0, 6)))
        for missing in (0, 2, 3):
            short = {(0, x): 10 for x in (0, 2, 3) if x != missing}
            self.fault(([[0], [0, 0]], [short, told[1]]), ("form",))
            self.fault(([[0], [0, 0]], [{**short, (0, 5): 10}, told[1]]), ("form",))

    def test_pairs(self):
        task, another, thing = crosswise()
        straight = {(0, 2): 2, (1, 3): 3}
        turned = {(0, 3): 2, (1, 2): 3}
        for given, told, want in [
            ([[0, 0], [0, 1]], [{(0, 1): 0, (1, 1): 1}, straight], ("pair", (0, 1))),
            ([[0, 1], [0, 1]], [{(0, 1): 0, (1, 0): 1}, straight], ("pair", (0, 1))),
            ([[0, 1], [1, 0]], [{(0, 1): 0, (1, 0): 1}, turned], ("pair", (0, 0))),
            ([[1, 0], [1, 0]], [{(0, 0): 0, (1, 1): 1}, turned], ("pair", (1, 0))),
            ([[1, 1], [0, 1]], [{(0, 0): 0, (1, 0): 1}, straight], None),
        ]:
            self.fault((given, told), want, task, another)

    def test_pairs_ahead_of_outputs_let_alone(self):
        task, another, thing = crosswise()
        self.fault(([[0, 0], [0, 1]], [{(0, 1): 9, (1, 1): 9}, {(0, 2): 9, (1, 3): 9}]), ("pair", (0, 1)), task, another)

    def test_alone_the_first_by_hand_input_and_output(self):
        self.fault(self.with_told((0, (0, 1), 12)), ("alone", 0, 0, 1))
        self.fault(self.with_told((1, (0, 4), 21)), ("alone", 1, 0, 4))
        self.fault(self.with_told((1, (1, 4), 22)), ("alone", 1, 1, 4))
        bad = [(0, (0, 1), 12), (1, (0, 4), 21), (1, (1, 4), 22)]
        for at, want in enumerate([("alone", 0, 0, 1), ("alone", 1, 0, 4), ("alone", 1, 1, 4)]):
            self.fault(self.with_told(*bad[at:]), want)
            self.fault(self.with_told(*reversed(bad[at:])), want)
        task = Task([[[10, 11]], [[20]]], {(0, 0): [(10, 20)]})
        for told0, told3, want in [(12, 13, 0), (11, 13, 3), (12, 11, 0), (10, 12, 3)]:
            told = [{(0, 3): told3, (0, 2): 63, (0, 0): told0}, {(0, 4): 20, (0, 6): 20}]
            self.fault(([[0], [0]], told), ("alone", 0, 0, want), task)

    def test_alone_ahead_of_both(self):
        self.fault(self.with_told((0, (0, 9), 63), (1, (1, 4), 22)), ("alone", 1, 1, 4))

    def test_both_the_first_by_pair_and_outputs(self):
        self.fault(self.with_told((0, (0, 9), 11)), ("both", (0, 0), (9, 4)))
        self.fault(self.with_told((0, (0, 1), 11)), ("both", (0, 0), (1, 4)))
        self.fault(self.with_told((0, (0, 1), 11), (0, (0, 9), 11)), ("both", (0, 0), (1, 4)))
        self.fault(self.with_told((1, (1, 4), 20)), ("both", (0, 1), (1, 4)))
        task = sample()
        task.both[0, 1].remove((12, 21))
        self.fault(right(), ("both", (0, 1), (9, 4)), task)
        of = other()
        of.both[1, 0].append((9, 6))
        self.fault(right(), ("both", (0, 0), (9, 6)), None, of)
        self.fault(self.with_told((1, (0, 6), 20)), ("both", (0, 1), (9, 6)), None, of)

    def test_both_in_all_pairs_that_come(self):
        given, told = halves()
        told[0][0, 1] = 2
        self.fault((given, told), ("both", (0, 1), (1, 0)), near(2), near(4))
        given, told = halves()
        told[1][0, 1] = 2
        self.fault((given, told), ("both", (1, 0), (0, 1)), near(2), near(4))

    def test_the_making_of_another_task(self):
        self.fault(halves(), ("form",), near(2), near(3))
        self.fault(halves(), None, near(2), near(4))
        self.fault(halves(), ("alone", 0, 1, 4), near(4), near(4))


class MadeOf(unittest.TestCase):
    def made(self, task, of):
        told = made_of(task, of)
        self.assertIsInstance(told, tuple)
        self.assertIsNone(made_fault(task, of, told))

    def test_where_there_is_one(self):
        task, another, thing = crosswise()
        self.made(task, another)
        self.made(another, task)
        self.made(sample(), other())
        for task, of in [
            (near(1), near(2)), (near(2), near(3)), (near(1), agreement()), (near(2), agreement()), (near(3), near(2)),
            (apart(2), apart(3)), (apart(3), apart(2)), (near(1), apart(2)), (apart(3), agreement()), (apart(4), near(1)),
            (near(3), near(7)), (near(4), near(5)), (near(7), agreement()),
        ]:
            self.made(task, of)
            self.made(swapped(task), swapped(of))

    def test_by_hand(self):
        one = Task([[[5]], [[6]]], {(0, 0): [(5, 6)]})
        self.assertEqual(made_of(one, apart(2)), ([[0], [0]], [{(0, 0): 5, (0, 1): 5}, {(0, 0): 6, (0, 1): 6}]))
        self.assertEqual(
            made_of(Task([[[5], [7]], [[6]]], {(0, 0): [(5, 6)], (1, 0): [(7, 6)]}), one),
            ([[0, 0], [0]], [{(0, 5): 5, (1, 5): 7}, {(0, 6): 6}]),
        )

    def test_where_there_is_none(self):
        for task, of in [
            (agreement(), near(1)), (agreement(), near(3)), (agreement(), apart(3)), (near(2), near(1)),
            (near(4), near(3)), (near(2), apart(3)), (agreement(), sample()),
        ]:
            self.assertIsNone(made_of(task, of))
            self.assertIsNone(made_of(swapped(task), swapped(of)))

    def test_of_outputs_that_may_be_let_alone_but_not_both(self):
        of = Task([[[0, 1]], [[0]]], {(0, 0): [(0, 0)]})
        self.made(Task([[[0, 1]], [[0]]], {(0, 0): [(1, 0)]}), of)
        self.assertIsNone(made_of(Task([[[0, 1]], [[0]]], {(0, 0): [(2, 0)]}), of))
        # Hand 0 may tell 2 where it met the other one, but not alone; of's 1 comes with the other one only.
        of = Task([[[0]], [[0]]], {(0, 0): [(1, 0)]})
        self.made(Task([[[0, 1]], [[0]]], {(0, 0): [(2, 0)]}), of)

    def test_of_a_task_of_itself(self):
        chance = random.Random(7)
        drawn = [drawn_task(chance, chance.randint(1, 2), chance.randint(1, 2), 4) for count in range(100)]
        for task in [agreement(), near(3), apart(4), sample(), other(), *crosswise()[:2], *drawn]:
            self.made(task, task)

    def test_drawn_ones_by_going_through_all_ways(self):
        chance = random.Random(9)
        found = []
        for count in range(150):
            task = drawn_task(chance, chance.randint(1, 2), chance.randint(1, 2), 2)
            of = drawn_task(chance, chance.randint(1, 2), chance.randint(1, 2), 2)
            told = made_of(task, of)
            found.append(told is None)
            if told is None:
                self.assertFalse(any(made_fault(task, of, thing) is None for thing in self.ways(task, of)))
            else:
                self.assertIsNone(made_fault(task, of, told))
        self.assertGreater(min(found.count(True), found.count(False)), 20)

    def ways(self, task, of):
        """All that has the form of what makes the task of the other one, with outputs 0 and 1."""
        checks = MadeFault()
        for ours in self.rows(task.inputs(0), of.inputs(0)):
            for theirs in self.rows(task.inputs(1), of.inputs(1)):
                given = [ours, theirs]
                keys = [
                    (hand, at, x) for hand in (0, 1) for at in range(task.inputs(hand)) for x in (0, 1)
                    if checks.is_told(of, hand, given[hand][at], x)
                ]
                for outputs in self.rows(len(keys), 2):
                    told = [{}, {}]
                    for (hand, at, x), output in zip(keys, outputs):
                        told[hand][at, x] = output
                    yield (given, told)

    def rows(self, many, below):
        if many == 0:
            return [[]]
        return [[*row, each] for row in self.rows(many - 1, below) for each in range(below)]

    def test_too_many_ways(self):
        four = joint(agreement(), agreement())
        sixteen = joint(wide(4, 4), wide(4, 4))
        twelve = joint(wide(3, 4), wide(4, 1))
        for task, of, many in [
            (four, four, 4 ** 8), (sixteen, sixteen, 16 ** 32), (agreement(), sixteen, 16 ** 4),
            (sixteen, agreement(), 2 ** 32), (wide(4, 4), wide(3, 3), 3 ** 8), (wide(1, 4), wide(1, 8), 8 ** 4),
            (wide(4, 1), wide(8, 1), 8 ** 4), (wide(2, 3), wide(4, 7), 4 ** 2 * 7 ** 3), (twelve, near(1), 2 ** 16),
        ]:
            with self.assertRaises(TooMany) as caught:
                made_of(task, of)
            self.assertEqual(caught.exception.many, many)

    def test_four_thousand_ways_are_not_too_many(self):
        # 20 ways each for two inputs, 10 for one.
        self.made(wide(2, 1), wide(20, 10))
        with self.assertRaises(TooMany) as caught:
            made_of(wide(1, 1), wide(59, 68))
        self.assertEqual(caught.exception.many, 4012)
        with self.assertRaises(TooMany) as caught:
            made_of(wide(1, 1), wide(4001, 1))
        self.assertEqual(caught.exception.many, 4001)
        self.made(wide(1, 1), wide(4000, 1))
        self.made(wide(1, 1), wide(1, 4000))

    def test_eight_pairs_let_for_each_pair_of_inputs(self):
        chance = random.Random(11)
        for count in range(60):
            every = [(x, y) for x in range(4) for y in range(4)]
            task, of = [
                Task([[sorted(chance.sample(range(4), 2)) for at in (0, 1)] for hand in (0, 1)], {
                    (a, b): sorted(chance.sample(every, 8)) for a in (0, 1) for b in (0, 1)
                }) for which in (0, 1)
            ]
            told = made_of(task, of)
            if told is not None:
                self.assertIsNone(made_fault(task, of, told))

    def test_lists_and_dicts_of_the_askers_own(self):
        for task, of in [(sample(), other()), (near(2), near(4)), (agreement(), agreement()), (apart(3), apart(3))]:
            before = copy.deepcopy((task, of))
            first = made_of(task, of)
            want = copy.deepcopy(first)
            given, told = first
            self.assertEqual(len({id(each) for each in [given, *given, told, *told]}), 6)
            for each in [given, *given, told]:
                each.append("changed")
            for each in told[:2]:
                each.clear()
            self.assertEqual(made_of(task, of), want)
            self.assertEqual((task, of), before)
            self.assertEqual([list(each.both) for each in (task, of)], [list(each.both) for each in before])


def wide(many0, many1):
    """A task of so many inputs of each hand, all with one output."""
    return Task([[[0]] * many0, [[0]] * many1], {(a, b): [(0, 0)] for a in range(many0) for b in range(many1)})


class MadeProtocol(unittest.TestCase):
    def test_by_hand(self):
        told = made_protocol(near(2), near(4), halves(), of_near_4())
        self.assertIsInstance(told, tuple)
        self.assertEqual(told, (2, [[0, 2], [0, 2]], {
            (0, 0): [0] * 10, (0, 1): [0, 0, 0, 1, 1, 2, 2, 2, 2, 2], (1, 0): [2, 2, 1, 2, 1, 0, 0, 0, 0, 0],
            (1, 1): [2] * 10,
        }))
        self.assertIsNone(protocol_fault(near(2), told))

    def test_each_hand_tells_by_its_own_dict_and_its_own_input(self):
        of_other = (1, [[0, 1], [4]], {(0, 0): [0, 6, 0, 4], (1, 0): [1, 4, 9, 4]})
        self.assertIsNone(protocol_fault(other(), of_other))
        told = made_protocol(sample(), other(), right(), of_other)
        self.assertEqual(told, (1, [[10], [20, 21]], {(0, 0): [10, 20, 12, 20], (0, 1): [10, 21, 12, 21]}))
        self.assertIsNone(protocol_fault(sample(), told))
        task, another, thing = crosswise()
        of_another = (1, [[1, 0], [2, 3]], {(1, 0): [0, 2] * 2, (1, 1): [0, 3] * 2, (0, 0): [1, 2] * 2})
        self.assertIsNone(protocol_fault(another, of_another))
        told = made_protocol(task, another, thing, of_another)
        self.assertEqual(told, (1, [[0, 1], [2, 3]], {(0, 0): [0, 2] * 2, (0, 1): [0, 3] * 2, (1, 0): [1, 2] * 2}))

    def test_of_no_rounds(self):
        told = made_protocol(sample(), other(), right(), (0, [[0, 1], [4]], {(0, 0): [0, 4], (1, 0): [1, 4]}))
        self.assertEqual(told, (0, [[10], [20, 21]], {(0, 0): [10, 20], (0, 1): [10, 21]}))

    def test_of_as_many_rounds_without_fault(self):
        for task, of in [(near(2), near(4)), (near(3), near(7)), (apart(3), near(1)), (sample(), other())]:
            for rounds in range(least_rounds(of), 6):
                told = made_protocol(task, of, made_of(task, of), protocol(of, rounds=rounds))
                self.assertEqual(told[0], rounds)
                self.assertIsNone(protocol_fault(task, told))

    def test_not_made(self):
        of_other = protocol(other())
        given, told = right()
        for thing in [
            *no_made(), (given, [{**told[0], (0, 1): 12}, told[1]]), (given, [{**told[0], (0, 9): 11}, told[1]]),
            (given, [told[0], {**told[1], (0, 4): 21}]),
        ]:
            with self.subTest(thing=repr(thing)), self.assertRaises(NoMade):
                made_protocol(sample(), other(), thing, of_other)
        task, another, thing = crosswise()
        with self.assertRaises(NoMade):
            pairless = ([[0, 0], [0, 1]], [{(0, 1): 0, (1, 1): 1}, {(0, 2): 2, (1, 3): 3}])
            made_protocol(task, another, pairless, protocol(another))

    def test_no_protocol(self):
        rounds, alone, walks = of_near_4()
        for thing in [
            *odd_things(), 0, (), (rounds, alone), [rounds, alone, walks], (1, alone, walks), (rounds, [[0, 4]], walks),
            (rounds, alone, {}), (rounds, [[0, 0], [0, 4]], walks), (rounds, alone, {**walks, (0, 0): [1] * 10}),
            (rounds, alone, {**walks, (0, 1): [0, 1, 1, 2, 4, 3, 3, 4, 4, 4]}), protocol(near(5)), protocol(near(2)),
        ]:
            with self.subTest(thing=repr(thing)), self.assertRaises(NoProtocol):
                made_protocol(near(2), near(4), halves(), thing)

    def test_of_several_refusals_the_one_told_first(self):
        for thing in [None, [], ([[0, 1], [0, 1]], [{}, {}]), right()]:
            for of_other in [None, [], of_near_4(), {}]:
                with self.assertRaises(NoMade):
                    made_protocol(near(2), near(4), thing, of_other)

    def test_lists_and_dicts_of_the_askers_own(self):
        handed = (near(2), near(4), halves(), of_near_4())
        first = made_protocol(*handed)
        want = copy.deepcopy(first)
        lists = [first[1], *first[1], *first[2].values()]
        self.assertEqual(len({id(each) for each in lists}), len(lists))
        for each in lists:
            each.append("changed")
        first[2].clear()
        self.assertEqual(made_protocol(*handed), want)
        self.assertEqual(handed, (near(2), near(4), halves(), of_near_4()))

    def test_what_is_handed_in_may_be_changed_behind(self):
        thing, of_other = halves(), of_near_4()
        told = made_protocol(near(2), near(4), thing, of_other)
        want = copy.deepcopy(told)
        for each in [thing[0][0], of_other[1][0], of_other[2][0, 1]]:
            each.clear()
        self.assertEqual(told, want)
