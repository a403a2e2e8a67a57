import copy
import random
import unittest

from tests.things import drawn_task, odd_things, tasks
from twoalone.errors import NoText
from twoalone.tasks import Task, agreement, apart, joint, near
from twoalone.texts import read_task, task_text

AGREEMENT = """alone 0 0 0
alone 0 1 1
alone 1 0 0
alone 1 1 1
both 0 0 0-0
both 0 1 0-0 1-1
both 1 0 0-0 1-1
both 1 1 1-1"""


def sample():
    """(1, 1) never comes; the dict's keys are not sorted."""
    return Task([[[0, 5, 63], [10]], [[1, 4], [6]]], {
        (1, 0): [(2, 1), (3, 1), (3, 4), (10, 9)],
        (0, 0): [(0, 63)],
        (0, 1): [(0, 6), (5, 6)],
    })


SAMPLE = """alone 0 0 0 5 63
alone 0 1 10
alone 1 0 1 4
alone 1 1 6
both 0 0 0-63
both 0 1 0-6 5-6
both 1 0 2-1 3-1 3-4 10-9"""
ROWS = SAMPLE.split("\n")


def with_row(at, row):
    return "\n".join([*ROWS[:at], row, *ROWS[at + 1:]])


class TaskText(unittest.TestCase):
    def test_of_one_input_each(self):
        self.assertEqual(task_text(apart(2)), "alone 0 0 0 1\nalone 1 0 0 1\nboth 0 0 0-1 1-0")
        self.assertEqual(task_text(Task([[[63]], [[0]]], {(0, 0): [(63, 0)]})), "alone 0 0 63\nalone 1 0 0\nboth 0 0 63-0")

    def test_of_several_inputs(self):
        self.assertEqual(task_text(agreement()), AGREEMENT)

    def test_sorted_pairs_whatever_the_order_of_the_dict(self):
        self.assertEqual(task_text(sample()), SAMPLE)
        task = sample()
        for keys in [[(0, 0), (0, 1), (1, 0)], [(1, 0), (0, 1), (0, 0)], [(0, 1), (1, 0), (0, 0)]]:
            self.assertEqual(task_text(Task(task.alone, {key: task.both[key] for key in keys})), SAMPLE)

    def test_of_more_than_ten_inputs(self):
        many = Task([[[0]] * 11, [[1]]], {(at, 0): [(0, 1)] for at in reversed(range(11))})
        rows = task_text(many).split("\n")
        self.assertEqual(rows[8:13], ["alone 0 8 0", "alone 0 9 0", "alone 0 10 0", "alone 1 0 1", "both 0 0 0-1"])
        self.assertEqual(rows[13:15] + rows[-2:], ["both 1 0 0-1", "both 2 0 0-1", "both 9 0 0-1", "both 10 0 0-1"])

    def test_the_task_is_not_changed(self):
        task = sample()
        for count in range(2):
            self.assertEqual(task_text(task), SAMPLE)
        self.assertEqual(task, sample())
        self.assertEqual(list(task.both), list(sample().both))

    def test_signs(self):
        for task in tasks():
            self.assertRegex(task_text(task), r"\A[ -~\n]+\Z")


class ReadTask(unittest.TestCase):
    def none(self, *texts):
        for text in texts:
            with self.subTest(text=repr(text)), self.assertRaises(NoText):
                read_task(text)

    def test_by_hand(self):
        self.assertEqual(read_task(AGREEMENT), agreement())
        told = read_task(SAMPLE)
        self.assertIsInstance(told, Task)
        self.assertEqual(told, sample())
        self.assertEqual(read_task("alone 0 0 63\nalone 1 0 0\nboth 0 0 63-0"), Task([[[63]], [[0]]], {(0, 0): [(63, 0)]}))

    def test_read_back(self):
        chance = random.Random(3)
        drawn = [drawn_task(chance, chance.randint(1, 12), chance.randint(1, 12), 12) for count in range(30)]
        for task in [sample(), *tasks(), joint(apart(7), near(7)), joint(agreement(), near(5)), *drawn]:
            self.assertEqual(read_task(task_text(task)), task)

    def test_each_is_the_askers_own(self):
        first = read_task(SAMPLE)
        first.alone[0][0].append("changed")
        first.both.clear()
        self.assertEqual(read_task(SAMPLE), sample())
        lists = [*read_task(AGREEMENT).alone, *read_task(AGREEMENT).both.values()]
        self.assertEqual(len({id(each) for each in lists}), len(lists))

    def test_blanks(self):
        for at, row in enumerate(ROWS):
            words = row.split(" ")
            for gap in range(1, len(words)):
                self.none(with_row(at, " ".join(words[:gap]) + "  " + " ".join(words[gap:])))
                self.none(with_row(at, " ".join(words[:gap]) + "\t" + " ".join(words[gap:])))
            self.none(*[with_row(at, other) for other in [row + " ", " " + row, row + "  ", row + "\t", row + "\r"]])

    def test_line_feeds(self):
        for at in range(len(ROWS) + 1):
            self.none("\n".join([*ROWS[:at], "", *ROWS[at:]]))
            self.none("\n".join([*ROWS[:at], " ", *ROWS[at:]]))
        self.none(SAMPLE + "\n", "\n" + SAMPLE, SAMPLE + "\n\n", SAMPLE.replace("\n", "\r\n"), SAMPLE.replace("\n", " "))
        self.none(SAMPLE.replace("\n", "\r"), SAMPLE.replace("\n", "\x0b"), SAMPLE.replace("\n", "\u2028"))

    def test_noughts_ahead(self):
        self.none(*[with_row(0, row) for row in [
            "alone 00 0 0 5 63", "alone 0 00 0 5 63", "alone 0 0 00 5 63", "alone 0 0 0 05 63", "alone 0 0 0 5 063",
        ]])
        self.none(*[with_row(1, row) for row in ["alone 0 01 10", "alone 00 1 10", "alone 0 1 010"]])
        self.none(*[with_row(5, row) for row in [
            "both 00 1 0-6 5-6", "both 0 01 0-6 5-6", "both 0 1 00-6 5-6", "both 0 1 0-06 5-6", "both 0 1 0-6 5-06",
        ]])

    def test_numbers(self):
        for word in [
            "64", "100", "-1", "+5", "5.0", "1_0", "five", "5a", "a", "", "0x5", "1e1", "\u0665", "\u00b2", "\uff15",
            "9" * 60, "9" * 5000, "True", "None", "-", "5-5",
        ]:
            self.none(with_row(0, f"alone 0 0 0 {word} 63"), with_row(0, f"alone 0 {word} 0 5 63"))
            self.none(with_row(0, f"alone {word} 0 0 5 63"), with_row(4, f"both {word} 0 0-63"))
            self.none(with_row(4, f"both 0 {word} 0-63"), with_row(4, f"both 0 0 0-{word}"), with_row(4, f"both 0 0 {word}-6"))
        self.none(with_row(0, "alone 0 0 0 5 64"), with_row(4, "both 0 0 0-64"), with_row(4, "both 0 0 64-0"))

    def test_pairs_and_their_strokes(self):
        for word in ["0", "063", "0 63", "0--63", "-0-63", "0-63-", "0-6-3", "0-", "-63", "-", "0 -63", "0- 63", "0,63", "0_63"]:
            self.none(with_row(4, f"both 0 0 {word}"))
        self.none(with_row(0, "alone 0 0 0-5 63"), with_row(5, "both 0 1 0-6 5 6"), with_row(5, "both 0 1 0 6 5-6"))

    def test_rows_left_out_twice_and_exchanged(self):
        for at in range(len(ROWS)):
            left_out = "\n".join([*ROWS[:at], *ROWS[at + 1:]])
            if at == 4:
                # Each input still comes in a pair, so this is the text of another task.
                self.assertEqual(read_task(left_out).pairs(), [(0, 1), (1, 0)])
            else:
                self.none(left_out)
            self.none("\n".join([*ROWS[:at], ROWS[at], *ROWS[at:]]))
            self.none("\n".join([*ROWS, ROWS[at]]))
            for other in range(at):
                rows = list(ROWS)
                rows[at], rows[other] = rows[other], rows[at]
                self.none("\n".join(rows))

    def test_one_pair_written_twice(self):
        self.none(with_row(4, "both 0 0 0-63\nboth 0 0 0-62"), with_row(4, "both 0 0 0-62\nboth 0 0 0-63"))

    def test_words(self):
        self.none(*[with_row(0, row) for row in [
            "Alone 0 0 0 5 63", "ALONE 0 0 0 5 63", "lone 0 0 0 5 63", "alone", "alone 0", "alone 0 0", "0 0 0 5 63",
            "alone: 0 0 0 5 63", "both 0 0 0 5 63", "alone 2 0 0 5 63", "alone 1 0 0 5 63", "alone 0 1 0 5 63",
            "alone 0 2 0 5 63", "alone 0 0 0 5 63 alone", "alone 0 0 0 5 63 # ours", "alone 10 0 0 5 63",
        ]])
        self.none(*[with_row(4, row) for row in [
            "Both 0 0 0-63", "both", "both 0", "both 0 0", "0 0 0-63", "alone 0 0 0-63", "both 0 2 0-63", "both 2 0 0-63",
            "both 0-0 0-63", "both 0 0 0-63 both", "both 0 0 0 63",
        ]])

    def test_outputs_that_do_not_rise(self):
        self.none(*[with_row(0, row) for row in [
            "alone 0 0 5 0 63", "alone 0 0 0 63 5", "alone 0 0 0 0 5 63", "alone 0 0 0 5 5 63", "alone 0 0 63 5 0",
        ]])

    def test_pairs_that_are_not_sorted(self):
        self.none(*[with_row(6, row) for row in [
            "both 1 0 3-1 2-1 3-4 10-9", "both 1 0 2-1 3-4 3-1 10-9", "both 1 0 10-9 2-1 3-1 3-4",
            "both 1 0 2-1 2-1 3-1 3-4 10-9", "both 1 0 2-1 3-1 3-4 3-4 10-9",
        ]])

    def test_an_input_that_comes_in_no_pair(self):
        self.none(SAMPLE.replace("alone 1 0", "alone 0 2 7\nalone 1 0"), SAMPLE.replace("both 0 0", "alone 1 2 7\nboth 0 0"))
        self.none("\n".join(ROWS[:6]), "\n".join(ROWS[:4]), "\n".join([*ROWS[:4], ROWS[5]]), "\n".join(ROWS[:4] + ROWS[6:]))

    def test_other_signs(self):
        for sign in ["\x00", "\t", "\x7f", "\x85", "\xa0", "\u2003", "\ufeff", "\ud800", "\U0001f600", "#", "~", "."]:
            self.none(sign, sign + SAMPLE, SAMPLE + sign, SAMPLE.replace(" ", sign), SAMPLE.replace("5", sign))

    def test_the_empty_text_and_short_ones(self):
        self.none("", " ", "\n", "\n\n", "0", "alone", "both", "alone 0 0 0", "both 0 0 0-0", "alone 0 0 0\nalone 1 0 0")

    def test_one_sign_otherwise(self):
        for at in range(len(SAMPLE)):
            for sign in " \n-0a\x00":
                text = SAMPLE[:at] + sign + SAMPLE[at + 1:]
                try:
                    told = read_task(text)
                except NoText:
                    continue
                self.assertEqual(task_text(told), text)
            short = SAMPLE[:at] + SAMPLE[at + 1:]
            try:
                self.assertEqual(task_text(read_task(short)), short)
            except NoText:
                pass

    def test_no_text(self):
        for thing in [
            *odd_things(), 0, 7, -1, 10 ** 59, SAMPLE.encode(), [SAMPLE], (SAMPLE,), {SAMPLE: SAMPLE}, ROWS, sample(),
            bytearray(b"alone"), sample().alone,
        ]:
            with self.subTest(thing=repr(thing)), self.assertRaises(NoText):
                read_task(thing)

    def test_a_task_is_copied_by_its_text(self):
        task = sample()
        other = read_task(task_text(task))
        want = copy.deepcopy(task)
        other.both[0, 0].append("changed")
        self.assertEqual(task, want)
