import importlib
import inspect
import unittest

from twoalone.bars import bar, bar_fault
from twoalone.boxes import boxed, boxed_bar_fault, boxed_fault, tell_boxed
from twoalone.errors import NoRounds
from twoalone.makes import made_fault, made_of, made_protocol
from twoalone.places import place
from twoalone.protocols import protocol_fault, tell
from twoalone.rounds import least_rounds, need, protocol
from twoalone.tasks import Task, joint, near, swapped
from twoalone.texts import read_task, task_text
from twoalone.weavings import known, weavings
from twoalone.webs import far, lots, walk

PLACE, NAME = inspect.Parameter.POSITIONAL_OR_KEYWORD, inspect.Parameter.KEYWORD_ONLY
FUNCTIONS = {
    "tasks": {
        "swapped": [("task", PLACE)],
        "joint": [("task", PLACE), ("other", PLACE)],
        "agreement": [],
        "near": [("n", PLACE)],
        "apart": [("n", PLACE)],
    },
    "weavings": {
        "known": [("inputs", PLACE), ("weaving", PLACE), ("rounds", NAME)],
        "weavings": [("rounds", PLACE)],
    },
    "places": {"place": [("known", PLACE), ("hand", PLACE)]},
    "protocols": {
        "tell": [("task", PLACE), ("protocol", PLACE), ("inputs", PLACE), ("weaving", PLACE)],
        "protocol_fault": [("task", PLACE), ("thing", PLACE)],
    },
    "webs": {
        "lots": [("task", PLACE), ("pair", PLACE)],
        "far": [("task", PLACE), ("pair", PLACE), ("x", PLACE), ("y", PLACE)],
        "walk": [("task", PLACE), ("pair", PLACE), ("x", PLACE), ("y", PLACE), ("many", NAME)],
    },
    "rounds": {
        "need": [("task", PLACE), ("choice", PLACE)],
        "least_rounds": [("task", PLACE)],
        "protocol": [("task", PLACE), ("rounds", NAME)],
    },
    "bars": {
        "bar": [("task", PLACE), ("rounds", NAME)],
        "bar_fault": [("task", PLACE), ("thing", PLACE), ("rounds", NAME)],
    },
    "boxes": {
        "tell_boxed": [("task", PLACE), ("boxed", PLACE), ("inputs", PLACE), ("weaving", PLACE)],
        "boxed": [("task", PLACE)],
        "boxed_fault": [("task", PLACE), ("thing", PLACE)],
        "boxed_bar_fault": [("task", PLACE), ("thing", PLACE)],
    },
    "makes": {
        "made_of": [("task", PLACE), ("other", PLACE)],
        "made_fault": [("task", PLACE), ("other", PLACE), ("thing", PLACE)],
        "made_protocol": [("task", PLACE), ("other", PLACE), ("thing", PLACE), ("protocol", PLACE)],
    },
    "texts": {"task_text": [("task", PLACE)], "read_task": [("text", PLACE)]},
}
# What may be left out, and then is None.
LEFT_OUT = [
    ("webs", "walk", "many"), ("bars", "bar", "rounds"), ("bars", "bar_fault", "rounds"),
    ("rounds", "protocol", "rounds"),
]
CLASSES = {
    "errors": {
        **{name: {} for name in [
            "AloneError", "NoHand", "NoJoint", "NoRounds", "NoInputs", "NoWeaving", "NoKnown", "NoProtocol",
            "NoChoice", "NoMade", "NoText",
        ]},
        "NoTask": {"__init__": ["what"]},
        "Barred": {"__init__": ["bar"]},
        "TooMany": {"__init__": ["many"]},
    },
    "tasks": {"Task": {"__init__": ["alone", "both"], "__eq__": ["other"], "inputs": ["hand"], "pairs": []}},
}


def parameters(function):
    return [(each.name, each.kind) for each in inspect.signature(function).parameters.values()]


def part(module, name):
    return getattr(importlib.import_module(f"twoalone.{module}"), name)


class Interface(unittest.TestCase):
    def test_functions_stand_in_their_files_with_their_arguments(self):
        for module, functions in FUNCTIONS.items():
            for name, want in functions.items():
                with self.subTest(module, name=name):
                    function = part(module, name)
                    self.assertTrue(inspect.isfunction(function))
                    self.assertEqual(function.__module__, f"twoalone.{module}")
                    self.assertEqual(parameters(function), want)
                    for each in inspect.signature(function).parameters.values():
                        left_out = (module, name, each.name) in LEFT_OUT
                        self.assertIs(each.default, None if left_out else inspect.Parameter.empty)

    def test_classes_stand_in_their_files_with_their_own_methods(self):
        for module, classes in CLASSES.items():
            for name, methods in classes.items():
                with self.subTest(module, name=name):
                    made = part(module, name)
                    self.assertTrue(inspect.isclass(made))
                    self.assertEqual(made.__module__, f"twoalone.{module}")
                    for method, want in methods.items():
                        self.assertIn(method, vars(made))
                        told = parameters(vars(made)[method])
                        self.assertEqual(told[1:], [(each, PLACE) for each in want])

    def test_by_place_and_by_name(self):
        alone, both = [[[0], [1]], [[2]]], {(0, 0): [(0, 2)], (1, 0): [(1, 3)]}
        task = Task(alone, both)
        self.assertEqual(Task(both=both, alone=alone), task)
        self.assertEqual(Task(alone, both=both), task)
        self.assertEqual((task.inputs(0), task.inputs(hand=0)), (2, 2))
        self.assertEqual(swapped(task=task), swapped(task))
        self.assertEqual(joint(other=near(n=2), task=task), joint(task, near(2)))
        self.assertEqual(weavings(rounds=1), weavings(1))
        self.assertEqual(known(weaving=[0, 0], inputs=(3, 4), rounds=1), known((3, 4), [0, 0], rounds=1))

    def test_places_webs_protocols_and_bars_by_place_and_by_name(self):
        task, protocol = near(1), (0, [[0, 1], [0, 1]], {(a, b): [a, b] for a in (0, 1) for b in (0, 1)})
        self.assertEqual(place(hand=1, known=(7, 4)), place((7, 4), 1))
        self.assertEqual(tell(weaving=[], inputs=(0, 1), protocol=protocol, task=task), (0, 1))
        self.assertIsNone(protocol_fault(thing=protocol, task=task))
        self.assertIsNone(protocol_fault(task, thing=protocol))
        self.assertEqual(lots(pair=(0, 1), task=task), lots(task, (0, 1)))
        self.assertEqual((far(y=1, x=0, pair=(0, 1), task=task), far(task, (0, 1), 0, 1)), (1, 1))
        self.assertEqual(walk(y=1, many=3, x=0, pair=(0, 1), task=task), walk(task, (0, 1), 0, 1, many=3))
        self.assertEqual(bar(rounds=1, task=near(4)), bar(near(4), rounds=1))
        self.assertIsNone(bar_fault(thing=bar(near(4), rounds=1), rounds=1, task=near(4)))
        self.assertEqual(bar_fault(near(4), thing=None), ("form",))

    def test_rounds_boxes_makes_and_texts_by_place_and_by_name(self):
        task = near(1)
        self.assertEqual((need(choice=[[0, 1], [0, 1]], task=task), need(task, [[0, 1], [0, 1]])), (1, 1))
        self.assertEqual((least_rounds(task=near(3)), least_rounds(near(3))), (1, 1))
        self.assertEqual(protocol(rounds=2, task=near(4)), protocol(near(4), rounds=2))
        word, told = boxed(task=task)
        self.assertEqual((word, told), boxed(task))
        outputs = tell_boxed(weaving=[0, 0, 1, 1, 1], inputs=(0, 1), boxed=told, task=task)
        self.assertEqual(outputs, tell_boxed(task, told, (0, 1), [0, 0, 1, 1, 1]))
        self.assertIsNone(boxed_fault(thing=told, task=task))
        self.assertIsNone(boxed_fault(task, told))
        self.assertEqual(boxed_bar_fault(thing=told, task=task), ("form",))
        self.assertEqual(boxed_bar_fault(task, told), ("form",))
        thing = made_of(other=near(3), task=task)
        self.assertEqual(thing, made_of(task, near(3)))
        self.assertIsNone(made_fault(thing=thing, other=near(3), task=task))
        self.assertIsNone(made_fault(task, near(3), thing))
        made = made_protocol(protocol=protocol(near(3)), thing=thing, other=near(3), task=task)
        self.assertEqual(made, made_protocol(task, near(3), thing, protocol(near(3))))
        self.assertEqual(read_task(text=task_text(task=task)), read_task(task_text(task)))

    def test_rounds_of_protocol_by_its_name_alone(self):
        with self.assertRaises(TypeError):
            protocol(near(4), 2)

    def test_each_module_stands_for_itself(self):
        for module in [*FUNCTIONS, *CLASSES]:
            there = importlib.import_module(f"twoalone.{module}")
            for name in [*FUNCTIONS.get(module, {}), *CLASSES.get(module, {})]:
                self.assertEqual(getattr(there, name).__name__, name)

    def test_many_and_rounds_by_their_names_alone(self):
        with self.assertRaises(TypeError):
            walk(near(1), (0, 1), 0, 1, 3)
        with self.assertRaises(TypeError):
            bar(near(4), 1)
        with self.assertRaises(TypeError):
            bar_fault(near(4), None, 1)

    def test_rounds_of_known_by_its_name_alone(self):
        with self.assertRaises(TypeError):
            known((0, 1), [], 0)
        with self.assertRaises(TypeError):
            known((0, 1), [])
        with self.assertRaises(NoRounds):
            known((0, 1), [], rounds=None)
