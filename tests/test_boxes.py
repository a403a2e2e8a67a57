import copy
import itertools
import unittest

from tests.things import choices, no_pairs, odd_things, sample, tasks
from twoalone.boxes import boxed, boxed_bar_fault, boxed_fault, tell_boxed
from twoalone.errors import NoInputs, NoProtocol, NoWeaving
from twoalone.tasks import Task, agreement, apart, joint, near, swapped


def right():
    """A boxed protocol of the sample, without fault."""
    return ([[0, 2], [1, 6]], [{(0, 0): 0, (1, 0): 3, (0, 1): 5}, {(0, 0): 4, (1, 0): 1, (0, 1): 6}])


def without():
    """A task without a boxed protocol: each output of hand 1's input 1 is at odds with some input of hand 0."""
    every = [(x, y) for x in range(4) for y in range(4)]
    return Task([[[0], [1], [2]], [[3], [0, 1, 2]]], {
        (0, 0): every,
        (0, 1): [(0, 0), (0, 1), (3, 3)],
        (1, 1): [(1, 1), (2, 2), (3, 1)],
        (2, 1): [(0, 0), (2, 2)],
    })


def all_weavings():
    """All weavings with a box, whole ones and those in which a hand stops ahead, with who won and how far each came."""
    for many in range(6):
        for hands in itertools.product((0, 1), repeat=many):
            steps, won = [0, 0], None
            for hand in hands:
                steps[hand] += 1
                if steps[hand] == 2 and won is None:
                    won = hand
            if max(steps) <= 3 and (won is None or steps[won] == 2):
                yield list(hands), won, steps


def no_boxed():
    """All sorts of ways not to be a boxed protocol of the form for the sample."""
    alone, answers = right()
    told = [*odd_things(), 0, (), (alone,), (alone, answers, answers), [alone, answers], {0: alone, 1: answers}]
    told += [(0, alone, answers), (answers, alone), ("boxed", right())]
    told += [(other, answers) for other in [
        *odd_things(), 0, "ab", tuple(alone), alone[:1], [*alone, [0]], [[0], [1, 6]], [[0, 2], [1]],
        [[0, 2, 0], [1, 6]], [[0, 2], [1, 6, 6]], [(0, 2), [1, 6]], [[0, 2], (1, 6)], {0: [0, 2], 1: [1, 6]},
        [[0, -1], [1, 6]], [[64, 2], [1, 6]], [[0, 2], [True, 6]], [[False, 2], [1, 6]], [[0, 2], [1, None]],
        [[0, "2"], [1, 6]], [[0, [2]], [1, 6]], [[0.0, 2], [1, 6]], [0, 2], [[], []], [[0, 2], None],
    ]]
    told += [(alone, other) for other in [
        *odd_things(), 0, tuple(answers), answers[:1], [*answers, answers[0]], [answers[0]] * 3, answers[0],
        {0: answers[0], 1: answers[1]}, [list(answers[0].items()), answers[1]], [answers[0], [4, 1, 6]],
    ]]
    for each in [
        *odd_things(), 0, {}, {(0, 0): 0, (1, 0): 3}, {**answers[0], (1, 1): 0}, {**answers[0], (0, 2): 0},
        {**answers[0], None: 0}, {**answers[0], "01": 0}, {(0, 0): 0, (1, 0): 3, (1, 1): 5}, {(0, 0): 0, (1, 0): 3, 0: 5},
        {(0, 0): 0, (1, 0): 3, (0, 1, 0): 5}, {(0, 0): 0, (1, 0): 3, (0, "1"): 5}, {(0, 0): 0, (1, 0): 3, (0, -1): 5},
        *[{**answers[0], (1, 0): output} for output in [
            *odd_things(), -1, 64, 10 ** 59, "3", [3], (3,), {3: 3}, 3.0,
        ]],
    ]:
        told += [(alone, [each, answers[1]]), (alone, [answers[0], each])]
    return told


class TellBoxed(unittest.TestCase):
    def told(self, weaving, inputs, want):
        with self.subTest(weaving=weaving, inputs=inputs):
            told = tell_boxed(sample(), right(), inputs, weaving)
            self.assertIsInstance(told, tuple)
            self.assertEqual(told, want)

    def test_hand_0_wins(self):
        for weaving in [[0, 0, 1, 1, 1], [0, 1, 0, 1, 1], [1, 0, 0, 1, 1]]:
            self.told(weaving, (0, 0), (0, 4))
            self.told(weaving, (1, 0), (2, 1))
            self.told(weaving, (0, 1), (0, 6))

    def test_hand_1_wins(self):
        for weaving in [[1, 1, 0, 0, 0], [1, 0, 1, 0, 0], [0, 1, 1, 0, 0]]:
            self.told(weaving, (0, 0), (0, 1))
            self.told(weaving, (1, 0), (3, 1))
            self.told(weaving, (0, 1), (5, 6))

    def test_stopped_ahead_of_each_step(self):
        for weaving, want in [
            ([], (None, None)), ([0], (None, None)), ([1], (None, None)), ([0, 1], (None, None)),
            ([1, 0], (None, None)), ([0, 0], (2, None)), ([1, 1], (None, 1)), ([0, 0, 1], (2, None)),
            ([0, 1, 0], (2, None)), ([1, 0, 0], (2, None)), ([0, 1, 1], (None, 1)), ([1, 1, 0], (None, 1)),
            ([1, 0, 1], (None, 1)), ([0, 0, 1, 1], (2, None)), ([0, 1, 0, 1], (2, None)), ([1, 0, 0, 1], (2, None)),
            ([1, 1, 0, 0], (None, 1)), ([0, 1, 1, 0], (None, 1)), ([1, 0, 1, 0], (None, 1)),
        ]:
            self.told(weaving, (1, 0), want)

    def test_all_weavings(self):
        alone, answers = right()
        count = 0
        for weaving, won, steps in all_weavings():
            count += 1
            for inputs in sample().both:
                want = [None, None]
                if won is not None:
                    want[won] = alone[won][inputs[won]]
                    if steps[1 - won] == 3:
                        want[1 - won] = answers[1 - won][inputs]
                self.told(weaving, inputs, tuple(want))
        self.assertEqual(count, 25)

    def test_outputs_that_are_not_let_are_told_all_the_same(self):
        alone, answers = right()
        other = ([[63, 0], [0, 63]], [{pair: 40 for pair in answers[0]}, {pair: 50 for pair in answers[1]}])
        self.assertEqual(tell_boxed(sample(), other, (0, 1), [0, 0, 1, 1, 1]), (63, 50))
        self.assertEqual(tell_boxed(sample(), other, (0, 1), [1, 1, 0, 0, 0]), (40, 63))

    def test_no_protocol(self):
        for thing in no_boxed():
            with self.subTest(thing=repr(thing)), self.assertRaises(NoProtocol):
                tell_boxed(sample(), thing, (0, 0), [])

    def test_a_boxed_protocol_of_another_task(self):
        for task in [agreement(), near(3), Task([[[0]], [[0]]], {(0, 0): [(0, 0)]})]:
            with self.assertRaises(NoProtocol):
                tell_boxed(task, right(), (0, 0), [])

    def test_no_pair(self):
        for inputs in no_pairs():
            with self.subTest(inputs=repr(inputs)), self.assertRaises(NoInputs):
                tell_boxed(sample(), right(), inputs, [])

    def test_no_weaving(self):
        for weaving in [
            *[thing for thing in odd_things() if thing != []], 0, "01", (0, 1), {0: 1}, [2], [-1], [True], [0, False],
            [None], ["0"], [0.0], [[0]], [{}], [0, 2], [10 ** 59],
        ]:
            with self.subTest(weaving=repr(weaving)), self.assertRaises(NoWeaving):
                tell_boxed(sample(), right(), (0, 0), weaving)

    def test_a_third_step_of_the_one_that_won(self):
        for weaving in [
            [0, 0, 0], [1, 1, 1], [0, 0, 1, 0], [0, 1, 0, 0], [1, 0, 0, 0], [0, 0, 1, 1, 0], [0, 0, 1, 1, 1, 0],
            [1, 1, 0, 0, 1], [1, 1, 0, 0, 0, 1], [0, 1, 1, 0, 0, 1], [0, 1, 0, 1, 0, 1], [1, 0, 1, 0, 1, 0],
        ]:
            with self.subTest(weaving=weaving), self.assertRaises(NoWeaving):
                tell_boxed(sample(), right(), (0, 0), weaving)

    def test_a_fourth_step(self):
        for weaving in [
            [0, 0, 1, 1, 1, 1], [1, 1, 0, 0, 0, 0], [0, 0, 0, 0], [1] * 4, [1, 0, 0, 1, 1, 1], [0] * 3 + [1] * 4,
        ]:
            with self.subTest(weaving=weaving), self.assertRaises(NoWeaving):
                tell_boxed(sample(), right(), (0, 0), weaving)

    def test_just_the_weavings(self):
        told = [weaving for weaving, won, steps in all_weavings()]
        for many in range(8):
            for hands in itertools.product((0, 1), repeat=many):
                try:
                    tell_boxed(sample(), right(), (0, 0), list(hands))
                    self.assertIn(list(hands), told)
                except NoWeaving:
                    self.assertNotIn(list(hands), told)

    def test_of_several_refusals_the_one_told_first(self):
        for thing in [None, [], right()[0], (right()[0], [{}, {}])]:
            for inputs in [(9, 9), (0, 0), None, []]:
                for weaving in [[0, 0, 0], None, []]:
                    with self.assertRaises(NoProtocol):
                        tell_boxed(sample(), thing, inputs, weaving)
        for inputs in [(1, 1), None, [], True, {}]:
            for weaving in [[0, 0, 0], None, [2], {}, []]:
                with self.assertRaises(NoInputs):
                    tell_boxed(sample(), right(), inputs, weaving)

    def test_nothing_handed_in_is_changed(self):
        task, protocol, weaving = sample(), right(), [0, 1, 0, 1, 1]
        for count in range(2):
            self.assertEqual(tell_boxed(task, protocol, (1, 0), weaving), (2, 1))
        self.assertEqual((task, protocol, weaving), (sample(), right(), [0, 1, 0, 1, 1]))
        self.assertEqual(list(task.both), list(sample().both))


class Boxed(unittest.TestCase):
    def test_of_tasks_with_a_boxed_protocol(self):
        for task in [
            sample(), agreement(), apart(2), apart(7), *[near(n) for n in range(1, 8)], joint(agreement(), agreement()),
            swapped(sample()), joint(near(7), agreement()),
        ]:
            word, told = boxed(task)
            self.assertEqual(word, "boxed")
            self.assertIsNone(boxed_fault(task, told))

    def test_by_hand(self):
        told = boxed(agreement())
        self.assertIsInstance(told, tuple)
        answers = [{(0, 0): 0, (0, 1): 1, (1, 0): 0, (1, 1): 1}, {(0, 0): 0, (0, 1): 0, (1, 0): 1, (1, 1): 1}]
        self.assertEqual(told, ("boxed", ([[0, 1], [0, 1]], answers)))

    def test_an_output_that_goes_with_each_other_input(self):
        # Of hand 0's outputs only 2 goes with both inputs of hand 1.
        task = Task([[[0, 1, 2, 3]], [[5], [6]]], {(0, 0): [(0, 5), (2, 5)], (0, 1): [(1, 6), (2, 6), (2, 7)]})
        word, (alone, answers) = boxed(task)
        self.assertEqual((word, alone), ("boxed", [[2], [5, 6]]))
        self.assertIn(answers[0][0, 0], (0, 2))
        self.assertIn(answers[0][0, 1], (1, 2))
        self.assertEqual(answers[1][0, 0], 5)
        self.assertIn(answers[1][0, 1], (6, 7))

    def test_of_tasks_without_one(self):
        for task in [without(), swapped(without()), joint(without(), near(2)), joint(agreement(), swapped(without()))]:
            word, told = boxed(task)
            self.assertEqual(word, "bar")
            self.assertIsNone(boxed_bar_fault(task, told))
        self.assertEqual(boxed(without()), ("bar", (1, 1, [1, 2, 0])))
        self.assertEqual(boxed(swapped(without())), ("bar", (0, 1, [1, 2, 0])))

    def test_an_output_let_alone_that_is_let_with_nothing(self):
        lone = Task([[[3]], [[0]]], {(0, 0): [(0, 0)]})
        self.assertEqual(boxed(lone), ("bar", (0, 0, [0])))
        self.assertEqual(boxed(swapped(lone)), ("bar", (1, 0, [0])))
        self.assertEqual(boxed(Task([[[0, 3]], [[0]]], {(0, 0): [(0, 0)]}))[0], "boxed")

    def test_a_protocol_or_a_bar_never_both(self):
        words = []
        for task in tasks():
            word, told = boxed(task)
            words.append(word)
            self.assertEqual(word == "boxed", self.has_boxed(task))
            fault = boxed_fault if word == "boxed" else boxed_bar_fault
            self.assertIsNone(fault(task, told))
        self.assertGreater(min(words.count("boxed"), words.count("bar")), 20)

    def has_boxed(self, task):
        """Told without boxed: whether in some choice all that win leave the one that lost something to tell."""
        for choice in choices(task):
            if all(
                any(let[hand] == choice[hand][pair[hand]] for let in task.both[pair])
                for pair in task.both for hand in (0, 1)
            ):
                return True
        return False

    def test_no_bar_stands_where_there_is_a_boxed_protocol(self):
        for task in tasks()[:80]:
            bars = 0
            for hand in (0, 1):
                for at in range(task.inputs(hand)):
                    many = len(task.alone[hand][at])
                    for others in itertools.product(range(task.inputs(1 - hand)), repeat=many):
                        bars += boxed_bar_fault(task, (hand, at, list(others))) is None
            self.assertEqual(bars > 0, boxed(task)[0] == "bar")

    def test_what_is_told_does_the_task_in_every_weaving(self):
        for task in [sample(), agreement(), near(4), apart(3), *tasks()[:80]]:
            word, told = boxed(task)
            if word == "boxed":
                for inputs in task.both:
                    for weaving, won, steps in all_weavings():
                        outputs = tell_boxed(task, told, inputs, weaving)
                        if None not in outputs:
                            self.assertIn(outputs, task.both[inputs])
                        if won is not None:
                            self.assertIn(outputs[won], task.alone[won][inputs[won]])

    def test_lists_and_dicts_of_the_askers_own(self):
        for task in [sample(), agreement(), without(), apart(3)]:
            before = copy.deepcopy(task)
            first = boxed(task)
            want = copy.deepcopy(first)
            if first[0] == "boxed":
                alone, answers = first[1]
                lists = [alone, *alone, answers]
                self.assertEqual(len({id(each) for each in [*lists, *answers]}), 6)
                for each in answers:
                    each.clear()
            else:
                lists = [first[1][2]]
            for each in lists:
                each.append("changed")
            self.assertEqual(boxed(task), want)
            self.assertEqual(task, before)
            self.assertEqual(list(task.both), list(before.both))


class BoxedFault(unittest.TestCase):
    def fault(self, thing, want, task=None):
        with self.subTest(thing=repr(thing)):
            before = copy.deepcopy(thing)
            self.assertEqual(boxed_fault(task or sample(), thing), want)
            self.assertEqual(thing, before)

    def with_answers(self, *changes):
        alone, answers = right()
        for hand, pair, output in changes:
            answers[hand][pair] = output
        return (alone, answers)

    def test_none(self):
        self.fault(right(), None)
        self.fault(self.with_answers((1, (0, 0), 1), (0, (1, 0), 2), (0, (0, 1), 0)), None)
        self.fault(([[0, 2], [4, 6]], [{(0, 0): 5, (1, 0): 3, (0, 1): 0}, right()[1][1]]), None)

    def test_the_order_of_the_pairs_in_a_dict_is_no_matter(self):
        alone, answers = right()
        self.fault((alone, [{pair: each[pair] for pair in reversed(list(each))} for each in answers]), None)

    def test_form_of_anything(self):
        task = sample()
        for thing in no_boxed():
            with self.subTest(thing=repr(thing)):
                self.assertEqual(boxed_fault(task, thing), ("form",))
        self.assertEqual(task, sample())

    def test_alone_the_first_by_hand_and_input(self):
        answers = right()[1]
        for alone, want in [
            ([[1, 2], [1, 6]], ("alone", 0, 0)), ([[0, 0], [1, 6]], ("alone", 0, 1)),
            ([[0, 2], [6, 6]], ("alone", 1, 0)), ([[0, 2], [1, 63]], ("alone", 1, 1)),
            ([[0, 0], [6, 0]], ("alone", 0, 1)), ([[1, 0], [6, 0]], ("alone", 0, 0)), ([[0, 2], [0, 0]], ("alone", 1, 0)),
        ]:
            self.fault((alone, answers), want)

    def test_alone_ahead_of_answers(self):
        self.fault(([[0, 2], [1, 1]], self.with_answers((0, (0, 0), 63))[1]), ("alone", 1, 1))

    def test_answers(self):
        for hand, pair, outputs in [
            (0, (0, 0), [1, 2, 3, 4, 5, 6]), (0, (0, 1), [1, 6, 63]), (0, (1, 0), [0, 1, 4]),
            (1, (0, 0), [0, 2, 3, 6]), (1, (0, 1), [0, 1, 4, 5]), (1, (1, 0), [0, 2, 3, 4]),
        ]:
            for output in outputs:
                self.fault(self.with_answers((hand, pair, output)), ("answer", hand, pair))

    def test_the_first_answer_by_hand_and_pair(self):
        bad = [(0, (0, 0), 63), (0, (0, 1), 63), (0, (1, 0), 63), (1, (0, 0), 63), (1, (0, 1), 63), (1, (1, 0), 63)]
        for at, (hand, pair, output) in enumerate(bad):
            self.fault(self.with_answers(*bad[at:]), ("answer", hand, pair))
            self.fault(self.with_answers(*reversed(bad[at:])), ("answer", hand, pair))

    def test_the_outputs_stand_by_their_hands(self):
        task = Task([[[0]], [[1]]], {(0, 0): [(0, 1)]})
        self.fault(([[0]], [1]), ("form",), task)
        self.fault(([[0], [1]], [{(0, 0): 0}, {(0, 0): 1}]), None, task)
        self.fault(([[0], [1]], [{(0, 0): 1}, {(0, 0): 1}]), ("answer", 0, (0, 0)), task)
        self.fault(([[0], [1]], [{(0, 0): 0}, {(0, 0): 0}]), ("answer", 1, (0, 0)), task)

    def test_a_bar_is_no_boxed_protocol(self):
        self.fault(boxed(without())[1], ("form",), without())
        self.fault(boxed(without()), ("form",), without())


class BoxedBarFault(unittest.TestCase):
    def fault(self, thing, want, task=None):
        with self.subTest(thing=repr(thing)):
            before = copy.deepcopy(thing)
            self.assertEqual(boxed_bar_fault(task or without(), thing), want)
            self.assertEqual(thing, before)

    def test_none(self):
        self.fault((1, 1, [1, 2, 0]), None)
        self.fault((0, 1, [1, 2, 0]), None, swapped(without()))
        more = without()
        more.both[1, 1] = [(3, 3)]
        self.fault((1, 1, [1, 1, 1]), None, more)
        self.fault((1, 1, [1, 2, 1]), None, more)

    def test_form_of_anything(self):
        for thing in [*odd_things(), 0, "bar", (), (1, 1), (1, 1, [1, 2, 0], 0), [1, 1, [1, 2, 0]], (1,), (1, [1, 2, 0])]:
            with self.subTest(thing=repr(thing)):
                self.assertEqual(boxed_bar_fault(without(), thing), ("form",))
        self.assertEqual(boxed_bar_fault(without(), ("bar", (1, 1, [1, 2, 0]))), ("form",))

    def test_form_of_anything_within(self):
        for thing in [*odd_things(), -1, 10 ** 59, "1", [1], (1,)]:
            for bar in [
                (thing, 1, [1, 2, 0]), (1, thing, [1, 2, 0]), (1, 1, thing), (1, 1, [thing, 2, 0]), (1, 1, [1, thing, 0]),
                (1, 1, [1, 2, thing]),
            ]:
                with self.subTest(bar=repr(bar)):
                    self.assertEqual(boxed_bar_fault(without(), bar), ("form",))

    def test_form(self):
        for thing in [
            (2, 1, [1, 2, 0]), (-1, 1, [1, 2, 0]), (1, 2, [1, 2, 0]), (0, 3, [0]), (1, -1, [1, 2, 0]),
            (True, 1, [1, 2, 0]), (1, True, [1, 2, 0]), (1.0, 1, [1, 2, 0]), (1, 1, (1, 2, 0)), (1, 1, [1, 2]),
            (1, 1, [1, 2, 0, 0]), (1, 1, []), (1, 1, {0: 1, 1: 2, 2: 0}), (1, 1, "120"), (1, 1, [1, 2, 3]),
            (1, 1, [3, 2, 0]), (1, 1, [1, -1, 0]), (1, 1, [True, 2, 0]), (1, 1, [1, 2, False]), (1, 1, [1, 2, None]),
            (1, 0, [0, 0]), (0, 0, [2]), (0, 1, [2]), (1, 0, [3]),
        ]:
            self.fault(thing, ("form",))

    def test_the_first_output_whose_input_is_not_as_told(self):
        for others, want in [
            ([0, 2, 0], 0), ([2, 2, 0], 0), ([1, 0, 0], 1), ([1, 1, 0], 1), ([1, 2, 1], 2), ([1, 2, 2], 2),
            ([0, 0, 1], 0), ([1, 0, 1], 1), ([2, 1, 2], 0),
        ]:
            self.fault((1, 1, others), ("input", want))
            self.fault((0, 1, others), ("input", want), swapped(without()))

    def test_inputs_that_come_in_no_pair_together(self):
        self.fault((1, 0, [1]), ("input", 0))
        self.fault((1, 0, [2]), ("input", 0))
        self.fault((0, 1, [0]), ("input", 0))
        task = Task([[[0, 1]], [[0], [0]]], {(0, 0): [(1, 0)], (0, 1): [(0, 0)]})
        self.fault((0, 0, [0, 1]), None, task)
        self.fault((0, 0, [1, 0]), ("input", 0), task)
        apart_pairs = Task([[[8, 9], [0]], [[0], [0]]], {(0, 0): [(1, 0)], (1, 1): [(0, 0)]})
        self.fault((0, 0, [0, 0]), None, apart_pairs)
        self.fault((0, 0, [1, 0]), ("input", 0), apart_pairs)
        self.fault((0, 0, [0, 1]), ("input", 1), apart_pairs)

    def test_form_far_behind_ahead_of_all_else(self):
        self.fault((1, 1, [0, 0, 3]), ("form",))
        self.fault((1, 1, [0, 0, None]), ("form",))

    def test_of_a_task_with_a_boxed_protocol_there_is_none(self):
        for hand in (0, 1):
            for at in (0, 1):
                for other in (0, 1):
                    self.fault((hand, at, [other]), ("input", 0), agreement())
