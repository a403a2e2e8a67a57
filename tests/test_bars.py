import copy
import unittest
from unittest import mock

from tests.things import choices, no_rounds, odd_things, row_task, tasks
from twoalone.bars import Faults, bar, bar_fault
from twoalone.errors import NoRounds
from twoalone.tasks import Task, agreement, apart, joint, near, swapped
from twoalone.webs import far

PAIR = (0, 1)


def marks(first=0, second=1, ours=None, theirs=None):
    """Marks of agreement's web of (0, 1): for output 0 of both hands, and output 1 of both, unless told else."""
    return [
        (0, 0, first), (0, 1, second if ours is None else ours),
        (1, 0, first if theirs is None else theirs), (1, 1, second),
    ]


def of_agreement(told=None):
    return ("choose", 0, 0, [("choose", 1, 1, [("apart", PAIR, marks() if told is None else told)])])


def crossed():
    """A task for no number of rounds: input 1 of hand 0 has one output apart from 5, and one that is no point."""
    both = {(0, 0): [(0, 5), (1, 6)], (1, 0): [(0, 6), (1, 5)]}
    return Task([[[0, 1], [0, 4]], [[5]]], both)


def forked():
    """A task for no number of rounds: input 0 of hand 0 must tell as both of hand 1's, which are unlike."""
    both = {(0, 0): [(0, 0), (1, 1), (2, 2)], (0, 1): [(0, 0), (1, 1), (2, 2)]}
    return Task([[[0, 1]], [[0], [1]]], both)


def forked_bar():
    """A bar of forked for all rounds, with its two leaves."""
    ones = [(hand, x, int(x == 1)) for hand in (0, 1) for x in range(3)]
    each = [(hand, x, x) for hand in (0, 1) for x in range(3)]
    leaves = [("apart", (0, 1), each), ("apart", (0, 0), ones)]
    return ("choose", 1, 1, [("choose", 1, 0, [("choose", 0, 0, leaves)])])


def row_bar(many):
    """A bar of row_task, with the numbers that go up by 1 at each tie."""
    points = [(0, at, 2 * at) for at in range(many // 2 + 1)] + [(1, at, 2 * at + 1) for at in range(many // 2 + 1)]
    return ("choose", 0, 0, [("choose", 1, 0, [("apart", (0, 0), points)])])


def has_protocol(task, rounds):
    """Told without a search: whether some choice of all has all its ways, none of them too long."""
    for choice in choices(task):
        ways = [far(task, (a, b), choice[0][a], choice[1][b]) for a, b in task.both]
        if None not in ways and (rounds is None or max(ways) <= 3 ** rounds):
            return True
    return False


def lists_in(tree):
    if tree[0] == "apart":
        return [tree[2]]
    return [tree[3], *[each for below in tree[3] for each in lists_in(below)]]


class Bar(unittest.TestCase):
    def test_for_all_rounds_by_hand(self):
        for task in [agreement(), forked(), crossed(), swapped(forked()), swapped(crossed())]:
            self.assertEqual(bar_fault(task, bar(task)), None)
        one = Task([[[0]], [[1]]], {(0, 0): [(0, 0), (1, 1)]})
        words = [tree[0] for tree in [bar(one), bar(one)[3][0], bar(one)[3][0][3][0]]]
        self.assertEqual(words, ["choose", "choose", "apart"])
        self.assertEqual(bar_fault(one, bar(one)), None)

    def test_none_where_there_is_a_protocol(self):
        for n in range(2, 8):
            self.assertIsNone(bar(apart(n)))
            self.assertIsNone(bar(apart(n), rounds=0))
        for n, least in [(1, 0), (2, 1), (3, 1), (4, 2), (5, 2), (6, 2), (7, 2)]:
            self.assertIsNone(bar(near(n)))
            for rounds in range(6):
                self.assertEqual(bar(near(n), rounds=rounds) is None, rounds >= least)

    def test_for_so_many_rounds_of_a_row(self):
        for many in [1, 3, 5, 9, 11, 27, 29, 39]:
            self.assertIsNone(bar(row_task(many)))
            for rounds in range(6):
                told = bar(row_task(many), rounds=rounds)
                self.assertEqual(told is None, many <= 3 ** rounds)
                if told is not None:
                    self.assertIsNone(bar_fault(row_task(many), told, rounds=rounds))

    def test_one_of_several_outputs_let_alone_will_do(self):
        self.assertIsNone(bar(row_task(29, [0, 14], [14]), rounds=1))
        self.assertIsNotNone(bar(row_task(29, [0, 12], [14]), rounds=1))
        self.assertIsNone(bar(row_task(29, [0, 12], [10, 14]), rounds=1))
        self.assertIsNotNone(bar(row_task(29, [0, 1], [13, 14]), rounds=2))
        self.assertIsNone(bar(row_task(29, [0, 1], [13, 14]), rounds=3))

    def test_an_output_that_is_no_point(self):
        lone = Task([[[3]], [[0]]], {(0, 0): [(0, 0)]})
        for task in [lone, swapped(lone), Task([[[3, 4]], [[5, 6]]], {(0, 0): [(0, 0), (1, 1)]})]:
            for rounds in [None, 0, 1, 5]:
                told = bar(task, rounds=rounds)
                self.assertIsNone(bar_fault(task, told, rounds=rounds))
        self.assertIsNone(bar(Task([[[0, 3]], [[0]]], {(0, 0): [(0, 0)]}), rounds=0))

    def test_never_both_a_protocol_and_a_bar(self):
        told_bars = 0
        for task in tasks():
            for rounds in [None, 0, 1, 2, 5]:
                told = bar(task, rounds=rounds)
                self.assertEqual(told is None, has_protocol(task, rounds))
                if told is not None:
                    told_bars += 1
                    self.assertIsNone(bar_fault(task, told, rounds=rounds))
        self.assertGreater(told_bars, 100)

    def test_for_all_rounds_there_is_one_just_where_there_are_ones_for_each(self):
        for task in tasks():
            every = [bar(task, rounds=rounds) for rounds in range(6)]
            # No way through these webs has more than 243 ties.
            self.assertEqual(bar(task) is None, every[5] is None)
            for rounds in range(5):
                self.assertTrue(every[rounds + 1] is None or every[rounds] is not None)

    def test_joint_tasks(self):
        for task, least in [
            (joint(near(3), near(3)), 1), (joint(near(2), near(7)), 2), (joint(near(1), apart(3)), 0),
            (joint(agreement(), near(3)), None), (joint(near(7), agreement()), None),
            (joint(near(3), crossed()), None), (joint(apart(2), row_task(11)), 3),
        ]:
            for rounds in [None, 0, 1, 2, 3]:
                told = bar(task, rounds=rounds)
                self.assertEqual(told is None, least is not None and (rounds is None or rounds >= least))
                if told is not None:
                    self.assertIsNone(bar_fault(task, told, rounds=rounds))

    def test_where_only_some_inputs_are_at_odds(self):
        # Nine inputs each, of eight outputs; but for the last two all may tell whatever they like.
        wide = list(range(8))
        every = [(x, y) for x in wide for y in wide]
        both = {(a, b): every for a in range(8) for b in range(8)}
        both[8, 8] = [(x, x) for x in wide]
        alone = [[*[wide] * 8, [0, 1, 2]], [*[wide] * 8, [3, 4]]]
        told = bar(Task(alone, both))
        self.assertIsNone(bar_fault(Task(alone, both), told))
        alone[1][8] = [2, 3]
        self.assertIsNone(bar(Task(alone, both)))

    def test_lists_of_the_askers_own(self):
        # In the bar of the last one two leaves have the same marks.
        alike = Task([[[0]], [[1, 2]]], {(0, 0): [(0, 0), (1, 1), (2, 2)]})
        for task, rounds in [
            (forked(), None), (agreement(), None), (near(4), 1), (crossed(), 0), (crossed(), None), (alike, None),
        ]:
            before = copy.deepcopy(task)
            first = bar(task, rounds=rounds)
            want = copy.deepcopy(first)
            found = lists_in(first)
            self.assertEqual(len({id(each) for each in found}), len(found))
            for each in found:
                each.append("changed")
            self.assertEqual(bar(task, rounds=rounds), want)
            self.assertEqual(task, before)
            self.assertEqual(list(task.both), list(before.both))

    def test_a_number_of_rounds_that_is_none(self):
        for rounds in no_rounds():
            with self.subTest(rounds=repr(rounds)), self.assertRaises(NoRounds):
                bar(near(3), rounds=rounds)


class BarFault(unittest.TestCase):
    def fault(self, task, thing, want, rounds=None):
        with self.subTest(thing=repr(thing), rounds=rounds):
            before = copy.deepcopy((task, thing))
            self.assertEqual(bar_fault(task, thing, rounds=rounds), want)
            self.assertEqual((task, thing), before)

    def test_none(self):
        self.fault(agreement(), of_agreement(), None)
        self.fault(agreement(), of_agreement(marks(1, 0)), None)
        self.fault(agreement(), of_agreement(marks(10 ** 59, -(10 ** 59))), None)
        self.fault(forked(), forked_bar(), None)
        for rounds in range(6):
            self.fault(agreement(), of_agreement(marks(0, 3 ** rounds + 1)), None, rounds)
            self.fault(agreement(), of_agreement(marks(-(3 ** rounds), 1)), None, rounds)
        for many, rounds in [(3, 0), (5, 1), (11, 2), (29, 3)]:
            self.fault(row_task(many), row_bar(many), None, rounds)

    def test_more_than_is_needed_may_be_chosen(self):
        tree = ("choose", 0, 1, [("choose", 1, 0, [of_agreement()])])
        self.fault(agreement(), tree, None)

    def test_the_choices_count_by_their_places(self):
        tree = forked_bar()
        self.fault(forked(), tree, None)
        tree[3][0][3][0][3].reverse()
        # The first leaf now says that 0 is apart from 0.
        self.fault(forked(), tree, ("apart", [0, 0, 0]))

    def test_form_of_anything(self):
        for thing in [*odd_things(), 0, 1, "choose", "apart", ("choose",), ("apart",), ("choose", 0), ("apart", PAIR)]:
            for rounds in [None, 0, 5]:
                with self.subTest(thing=repr(thing), rounds=rounds):
                    self.assertEqual(bar_fault(agreement(), thing, rounds=rounds), ("form",))

    def test_form_of_anything_within(self):
        for thing in [*odd_things(), mock.ANY]:
            for tree in self.with_thing(thing):
                with self.subTest(thing=repr(thing)):
                    self.assertEqual(bar_fault(agreement(), tree), ("form",))

    def with_thing(self, thing):
        """Trees of agreement with this in turn for each thing that stands there."""
        told = [(thing, 0, 0, [of_agreement()]), ("choose", thing, 0, [of_agreement()])]
        told += [("choose", 0, thing, [of_agreement()]), ("choose", 0, 0, thing), ("choose", 0, 0, [thing])]
        told += [("choose", 0, 0, [("choose", 1, 1, [thing])])]
        leaves = [(thing, PAIR, marks()), ("apart", thing, marks()), ("apart", PAIR, thing)]
        leaves += [("apart", (thing, 1), marks()), ("apart", (0, thing), marks())]
        leaves += [("apart", PAIR, [*marks()[:3], thing]), ("apart", PAIR, [thing, *marks()[1:]])]
        leaves += [("apart", PAIR, [(thing, 0, 0), *marks()[1:]]), ("apart", PAIR, [(0, thing, 0), *marks()[1:]])]
        leaves += [("apart", PAIR, [(0, 0, thing), *marks()[1:]])]
        return told + [("choose", 0, 0, [("choose", 1, 1, [leaf])]) for leaf in leaves]

    def test_form_of_a_branch(self):
        leaf, lower = ("apart", PAIR, marks()), ("choose", 1, 1, [("apart", PAIR, marks())])
        for tree in [
            ["choose", 0, 0, [lower]], ("Choose", 0, 0, [lower]), (b"choose", 0, 0, [lower]), ("apart", 0, 0, [lower]),
            ("choose", 2, 0, [lower]), ("choose", -1, 0, [lower]), ("choose", "0", 0, [lower]),
            ("choose", 0, 2, [lower]), ("choose", 0, -1, [lower]), ("choose", 0, 10 ** 59, [lower]),
            ("choose", False, 0, [lower]), ("choose", 0, False, [lower]), ("choose", 0, 0.0, [lower]),
            ("choose", 0, 0, (lower,)), ("choose", 0, 0, []), ("choose", 0, 0, [lower, lower]), ("choose", 0, 0, lower),
            ("choose", 0, 0, {0: lower}), ("choose", 0, 0), ("choose", 0, 0, [lower], 0), ("choose", (0, 0), [lower]),
            ("choose", 0, 0, [None]), ("choose", 0, 0, [[lower]]), ("choose", 0, 0, [("choose", 1, 1, [list(leaf)])]),
        ]:
            self.fault(agreement(), tree, ("form",))

    def test_as_many_trees_as_outputs_let_alone(self):
        top = forked_bar()
        leaves = top[3][0][3][0][3]
        for trees in [leaves[:1], [], [*leaves, leaves[0]]]:
            self.fault(forked(), ("choose", 1, 1, [("choose", 1, 0, [("choose", 0, 0, trees)])]), ("form",))

    def test_form_of_a_leaf(self):
        for leaf in [
            ["apart", PAIR, marks()], ("Apart", PAIR, marks()), (b"apart", PAIR, marks()), ("choose", PAIR, marks()),
            ("apart", [0, 1], marks()), ("apart", (0, 2), marks()), ("apart", (2, 0), marks()),
            ("apart", (-1, 0), marks()), ("apart", (False, 1), marks()), ("apart", (0,), marks()),
            ("apart", (0, 1, 0), marks()), ("apart", 0, 1, marks()), ("apart", PAIR), ("apart", PAIR, marks(), 0),
            ("apart", "01", marks()), ("apart", ([], {}), marks()), ("apart", (0, 0), marks()),
        ]:
            self.fault(agreement(), ("choose", 0, 0, [("choose", 1, 1, [leaf])]), ("form",))

    def test_form_of_marks(self):
        right = marks()
        for told in [
            tuple(right), {mark[:2]: mark[2] for mark in right}, [], right[:3], right[1:], [*right, (1, 2, 0)],
            [*right, (1, 1, 1)], [*right, right[3]], [right[0], *right], [(0, 0, 0), *right], right[::-1],
            [right[1], right[0], *right[2:]], [*right[:2], right[3], right[2]], [*right[2:], *right[:2]],
            [list(mark) for mark in right], [*right[:3], (1, 1)], [*right[:3], (1, 1, 1, 1)], [*right[:3], (1, 2, 1)],
            [*right[:3], (2, 1, 1)], [(0, -1, 0), *right[1:]], [(0, 0, None), *right[1:]], [(0, 0, "0"), *right[1:]],
            [(0, 0, False), *right[1:]], [(False, 0, 0), *right[1:]], [(0, False, 0), *right[1:]],
            [(0, 0, 0.0), *right[1:]], [*right[:3], (1, True, 1)], [*right[:3], (True, 1, 1)],
            [*right[:3], (1, 1, True)], [(0, 0, 0)] * 4, [(0, 0, [])] * 4, [0, 0, 0, 0], "abcd", [*right, None],
            [((0, 0), 0, 0), *right[1:]],
        ]:
            self.fault(agreement(), of_agreement(told), ("form",))

    def test_form_far_down_ahead_of_all_else(self):
        bad = ("choose", 0, 1, ["none"])
        self.fault(agreement(), ("choose", 0, 0, [("choose", 0, 0, [bad])]), ("form",))
        twice = ("choose", 0, 0, [("choose", 0, 0, [of_agreement([])])])
        self.fault(agreement(), twice, ("form",))
        wrong = forked_bar()
        leaves = wrong[3][0][3][0][3]
        leaves[0], leaves[1] = ("apart", (0, 1), [(h, x, 0) for h in (0, 1) for x in range(3)]), None
        self.fault(forked(), wrong, ("form",))
        self.fault(forked(), ("choose", 0, 0, [("apart", (0, 0), []), ("apart", (0, 1), leaves[0][2])]), ("form",))
        self.fault(forked(), ("choose", 0, 0, [leaves[0], ("apart", (0, 2), leaves[0][2])]), ("form",))

    def test_form_wherever_it_breaks_behind_another_fault(self):
        task = Task([[[0, 1, 2]], [[0], [1]]], {(0, b): [(0, 0), (1, 1), (2, 2)] for b in (0, 1)})
        leaf = ("apart", (0, 0), [(hand, x, 0) for hand in (0, 1) for x in range(3)])
        twice = ("choose", 0, 0, [leaf, leaf, leaf])
        self.fault(task, ("choose", 0, 0, [twice, leaf, leaf]), ("choose", [0]))
        self.fault(task, ("choose", 0, 0, [leaf, leaf, leaf]), ("apart", [0]))
        for at in range(3):
            broken = [leaf, leaf, leaf]
            broken[at] = None
            for first in range(3):
                trees = [twice, twice, twice]
                trees[first] = ("choose", 0, 0, broken)
                self.fault(task, ("choose", 0, 0, trees), ("form",))
                self.fault(task, ("choose", 1, 0, [("choose", 0, 0, trees)]), ("form",))
                trees[first] = ("choose", 1, 1, [("choose", 0, 0, broken)])
                self.fault(task, ("choose", 0, 0, trees), ("form",))
            self.fault(task, ("choose", 0, 0, broken), ("form",))

    def test_deeper_than_python_goes(self):
        for times in (20000, 100001, 400000):
            tree, broken = of_agreement(), None
            for count in range(times):
                tree, broken = ("choose", 0, 0, [tree]), ("choose", 0, 0, [broken])
            self.assertEqual(bar_fault(agreement(), tree), ("choose", [0]))
            self.assertEqual(bar_fault(agreement(), tree, rounds=2), ("choose", [0]))
            self.assertEqual(bar_fault(agreement(), broken), ("form",))

    def test_deep_on_one_side(self):
        right = deep = forked_bar()[3][0][3][0][3][0]
        for count in range(150000):
            deep = ("choose", 0, 0, [right, deep] if count % 2 else [deep, right])
        far_down = ("choose", 1, 1, [deep])
        self.assertEqual(bar_fault(forked(), far_down), ("choose", [0, 1]))
        self.assertEqual(bar_fault(forked(), ("choose", 1, 0, [far_down])), ("choose", [0, 0, 1]))
        self.assertEqual(bar_fault(forked(), ("choose", 0, 0, [far_down, None])), ("form",))
        self.assertEqual(bar_fault(forked(), ("choose", 0, 0, [None, far_down])), ("form",))

    def test_a_thing_that_holds_itself_is_answered(self):
        trees = []
        trees.append(("choose", 0, 0, trees))
        self.assertEqual(bar_fault(agreement(), trees[0]), ("choose", [0]))
        leaves = []
        leaves.extend([("choose", 0, 0, leaves), ("choose", 0, 0, leaves)])
        self.assertEqual(bar_fault(forked(), leaves[0]), ("choose", [0]))
        leaves[1] = None
        self.assertEqual(bar_fault(forked(), leaves[0]), ("form",))

    def test_form_beside_a_thing_that_holds_itself(self):
        task = Task([[[0, 1, 2]], [[0]]], {(0, 0): [(0, 0)]})
        leaf = ("apart", (0, 0), [(0, 0, 0), (1, 0, 0)])
        for at in range(3):
            # Two of the three are the whole itself, and the third one goes down to what may be no tree.
            trees = []
            whole = ("choose", 0, 0, trees)
            for times in (0, 1, 40, 5000):
                for end in (leaf, None, ("choose", 1, 0, [leaf, leaf])):
                    tree = end
                    for count in range(times):
                        tree = ("choose", 1, 0, [tree])
                    trees[:] = [whole, whole, whole]
                    trees[at] = tree
                    first = ("choose", [0, 0]) if times > 1 else ("apart", [0] * (times + 1))
                    want = ("form",) if end != leaf else first if at == 0 else ("choose", [0])
                    self.assertEqual(bar_fault(task, whole), want)

    def test_form_below_millions(self):
        tree = None
        for count in range(3100000):
            tree = ("choose", 0, 0, [tree])
        self.assertEqual(bar_fault(agreement(), tree), ("form",))

    def test_form_of_a_list_met_again(self):
        leaf = ("apart", (0, 1), [(hand, x, 0) for hand in (0, 1) for x in range(3)])
        shared = [leaf]
        far_down = ("choose", 1, 0, shared)
        for count in range(150000):
            far_down = ("choose", 1, 0, [far_down])
        # The list is looked through at the end of what goes far down, and then met again beside it.
        for tree, fault in [
            (("choose", 1, 1, shared), ("apart", [0, 0])),
            (("choose", 1, 0, shared), ("apart", [0, 0])),
            (("choose", 0, 0, [leaf, ("choose", 1, 0, shared)]), ("choose", [0])),
            (("choose", 0, 0, shared), ("form",)),
            (("choose", 1, 0, [leaf, *shared]), ("form",)),
            (("choose", 0, 0, [("choose", 1, 0, shared), leaf, leaf]), ("form",)),
            (("apart", (0, 0), shared), ("form",)),
            (("apart", (0, 1), shared), ("form",)),
        ]:
            self.assertEqual(bar_fault(forked(), ("choose", 0, 0, [tree, far_down])), fault)

    def test_things_that_go_far_down_are_not_changed(self):
        for end in (("apart", PAIR, marks()), None):
            rows, tree = [], end
            for count in range(150000):
                rows.append([tree])
                tree = ("choose", 0, 0, rows[-1])
            circle = []
            circle.append(("choose", 1, 1, circle))
            kept = [row[0] for row in rows]
            for thing in (tree, circle[0]):
                bar_fault(agreement(), thing)
            self.assertEqual([len(row) for row in rows], [1] * 150000)
            self.assertTrue(all([row[0] is each for row, each in zip(rows, kept)]))
            self.assertEqual(len(circle), 1)
            self.assertTrue(circle[0][3] is circle)

    def test_what_tags_lists_is_no_tree(self):
        leaf = ("apart", (0, 0), [(hand, x, 0) for hand in (0, 1) for x in range(3)])
        for tag in (Faults(forked(), None), mock.ANY):
            for trees in ([leaf, leaf, tag], [leaf, tag], [tag, leaf], [tag]):
                self.assertEqual(bar_fault(forked(), ("choose", 0, 0, trees)), ("form",))
                self.assertEqual(bar_fault(forked(), ("choose", 1, 0, [("choose", 1, 0, trees)])), ("form",))

    def test_a_thing_that_holds_another_one_often(self):
        task = Task([[[0, 1], [1]], [[0], [1]]], {(0, 0): [(0, 0)], (1, 1): [(1, 1)]})
        tree, broken = ("apart", (1, 1), [(0, 1, 0), (1, 1, 0)]), None
        for count in range(100):
            tree, broken = ("choose", 0, 0, [tree, tree]), ("choose", 0, 0, [broken, broken])
        self.assertEqual(bar_fault(task, tree), ("choose", [0]))
        self.assertEqual(bar_fault(task, broken), ("form",))

    def test_an_input_chosen_twice(self):
        task = agreement()
        self.fault(task, ("choose", 0, 0, [of_agreement()]), ("choose", [0]))
        self.fault(task, ("choose", 1, 1, [of_agreement()]), ("choose", [0, 0]))
        self.fault(task, ("choose", 0, 0, [("choose", 0, 1, [of_agreement()])]), ("choose", [0, 0]))
        self.fault(task, ("choose", 0, 0, [("choose", 1, 0, [("choose", 1, 0, [of_agreement()])])]), ("choose", [0, 0]))
        # The same input of the other hand is another one.
        self.fault(task, ("choose", 1, 0, [("choose", 0, 1, [of_agreement()])]), None)

    def test_chosen_twice_on_the_way_and_not_elsewhere(self):
        task = forked()
        leaves = forked_bar()[3][0][3][0][3]
        tree = ("choose", 0, 0, [("choose", 1, 1, [leaves[0]]), ("choose", 1, 0, [leaves[1]])])
        self.fault(task, tree, None)
        tree = ("choose", 0, 0, [("choose", 1, 1, [leaves[0]]), ("choose", 1, 0, [("choose", 1, 0, [leaves[1]])])])
        self.fault(task, tree, ("choose", [1, 0]))
        tree = ("choose", 0, 0, [("choose", 1, 1, [leaves[0]]), ("choose", 0, 0, leaves)])
        self.fault(task, tree, ("choose", [1]))

    def test_an_input_that_was_not_chosen(self):
        leaf = ("apart", PAIR, marks())
        for rounds in [None, 0]:
            self.fault(agreement(), leaf, ("apart", []), rounds)
            self.fault(agreement(), ("choose", 0, 0, [leaf]), ("apart", [0]), rounds)
            self.fault(agreement(), ("choose", 1, 1, [leaf]), ("apart", [0]), rounds)
            self.fault(agreement(), ("choose", 0, 1, [("choose", 1, 1, [leaf])]), ("apart", [0, 0]), rounds)
            self.fault(agreement(), ("choose", 0, 0, [("choose", 1, 0, [leaf])]), ("apart", [0, 0]), rounds)

    def test_chosen_elsewhere_in_the_tree_is_not_chosen_on_the_way(self):
        leaves = forked_bar()[3][0][3][0][3]
        tree = ("choose", 0, 0, [("choose", 1, 1, [leaves[0]]), leaves[1]])
        self.fault(forked(), tree, ("apart", [1]))

    def test_too_far_apart_at_a_tie(self):
        task = agreement()
        self.fault(task, of_agreement(marks(0, 1, ours=2)), ("apart", [0, 0]))
        self.fault(task, of_agreement(marks(0, 1, theirs=1)), ("apart", [0, 0]))
        self.fault(task, of_agreement(marks(0, 1, theirs=-1)), ("apart", [0, 0]))
        self.fault(task, of_agreement(marks(0, 9, ours=8)), None, 0)
        self.fault(task, of_agreement(marks(0, 9, ours=10)), None, 0)
        self.fault(task, of_agreement(marks(0, 9, ours=7)), ("apart", [0, 0]), 0)
        self.fault(task, of_agreement(marks(0, 9, ours=11)), ("apart", [0, 0]), 0)
        self.fault(task, of_agreement(marks(0, 9, theirs=1)), None, 0)
        self.fault(task, of_agreement(marks(0, 9, theirs=-2)), ("apart", [0, 0]), 0)
        self.fault(task, of_agreement(marks(0, 9, theirs=2)), ("apart", [0, 0]), 0)

    def test_a_bar_for_so_many_rounds_is_none_for_all(self):
        self.fault(row_task(29), row_bar(29), ("apart", [0, 0]))
        self.fault(agreement(), of_agreement(marks(0, 9, ours=8)), ("apart", [0, 0]))
        self.fault(agreement(), of_agreement(), ("apart", [0, 0]), 0)

    def test_not_far_enough_at_what_is_chosen(self):
        task = agreement()
        self.fault(task, of_agreement(marks(0, 0)), ("apart", [0, 0]))
        self.fault(task, of_agreement(marks(7, 7)), ("apart", [0, 0]))
        for rounds in range(6):
            self.fault(task, of_agreement(marks(0, 3 ** rounds)), ("apart", [0, 0]), rounds)
            self.fault(task, of_agreement(marks(0, 3 ** rounds + 1)), None, rounds)
            # Hand 1's must be above hand 0's, not the other way about.
            self.fault(task, of_agreement(marks(3 ** rounds + 1, 0)), ("apart", [0, 0]), rounds)
        for many, rounds in [(1, 0), (3, 1), (9, 2), (27, 3)]:
            self.fault(row_task(many), row_bar(many), ("apart", [0, 0]), rounds)

    def test_what_is_told_for_some_rounds_is_none_for_more(self):
        for many, rounds in [(3, 0), (5, 1), (11, 2), (29, 3)]:
            told = bar(row_task(many), rounds=rounds)
            self.fault(row_task(many), told, None, rounds)
            self.fault(row_task(many), told, ("apart", [0, 0]), rounds + 1)

    def test_where_an_output_chosen_is_no_point_any_numbers_will_do(self):
        for alone in [[[[3]], [[0]]], [[[0]], [[3]]], [[[3]], [[3]]]]:
            task = Task(alone, {(0, 0): [(0, 0), (1, 1)]})
            leaf = ("apart", (0, 0), [(0, 0, 5), (0, 1, 0), (1, 0, -9), (1, 1, 0)])
            tree = ("choose", 1, 0, [("choose", 0, 0, [leaf])])
            for rounds in [None, 0, 5]:
                self.fault(task, tree, None, rounds)
        # A number of the one hand's is no point of the other one.
        task = Task([[[1]], [[1]]], {(0, 0): [(0, 1), (2, 1)]})
        tree = ("choose", 1, 0, [("choose", 0, 0, [("apart", (0, 0), [(0, 0, 0), (0, 2, 0), (1, 1, 0)])])])
        self.fault(task, tree, None)
        # But the form must be right all the same.
        tree = ("choose", 1, 0, [("choose", 0, 0, [("apart", (0, 0), [(0, 0, 0), (0, 1, 0), (0, 2, 0), (1, 1, 0)])])])
        self.fault(task, tree, ("form",))

    def test_each_tree_ahead_of_those_in_it_and_behind_those_on_its_left(self):
        task = forked()
        noughts = [(h, x, 0) for h in (0, 1) for x in range(3)]
        bad0, bad1 = ("apart", (0, 1), noughts), ("apart", (0, 0), noughts)
        good = forked_bar()[3][0][3][0][3]
        for leaves, want in [([bad0, bad1], [0, 0, 0]), ([bad0, good[1]], [0, 0, 0]), ([good[0], bad1], [0, 0, 1])]:
            tree = ("choose", 1, 1, [("choose", 1, 0, [("choose", 0, 0, leaves)])])
            self.fault(task, tree, ("apart", want))
        tree = ("choose", 0, 0, [bad0, ("choose", 0, 0, good)])
        self.fault(task, tree, ("apart", [0]))
        tree = ("choose", 0, 0, [("choose", 0, 0, [bad0, bad1]), bad1])
        self.fault(task, tree, ("choose", [0]))
        tree = ("choose", 0, 0, [("choose", 1, 1, [good[0]]), ("choose", 1, 0, [("choose", 1, 0, [bad1])])])
        self.fault(task, tree, ("choose", [1, 0]))

    def test_paths_are_lists_of_the_askers_own(self):
        first = bar_fault(agreement(), of_agreement(), rounds=0)
        first[1].append("changed")
        self.assertEqual(bar_fault(agreement(), of_agreement(), rounds=0), ("apart", [0, 0]))

    def test_the_bar_of_another_task(self):
        self.fault(near(4), bar(agreement()), ("form",))
        self.fault(agreement(), bar(near(4), rounds=1), ("form",), 1)
        self.fault(apart(2), bar(agreement()), ("form",))

    def test_a_number_of_rounds_that_is_none_ahead_of_all(self):
        for rounds in no_rounds():
            for thing in [None, [], of_agreement(), bar(near(4), rounds=1)]:
                with self.subTest(rounds=repr(rounds)), self.assertRaises(NoRounds):
                    bar_fault(agreement(), thing, rounds=rounds)
