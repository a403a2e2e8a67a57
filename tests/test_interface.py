import importlib
import inspect
import unittest

from twoalone.errors import NoRounds
from twoalone.tasks import Task, joint, near, swapped
from twoalone.weavings import known, weavings

PLACE, NAME = inspect.Parameter.POSITIONAL_OR_KEYWORD, inspect.Parameter.KEYWORD_ONLY
FUNCTIONS = {
    "tasks": {
        "swapped": [("task", PLACE)],
        "joint": [("task", PLACE), ("other", PLACE)],
        "agreement": [],
        "near": [("n", PLACE)],
        "apart": [("n", PLACE)],
    },
    "weavings": {
        "known": [("inputs", PLACE), ("weaving", PLACE), ("rounds", NAME)],
        "weavings": [("rounds", PLACE)],
    },
}
CLASSES = {
    "errors": {
        **{name: {} for name in [
            "AloneError", "NoHand", "NoJoint", "NoRounds", "NoInputs", "NoWeaving", "NoKnown", "NoProtocol",
            "NoChoice", "NoMade", "NoText",
        ]},
        "NoTask": {"__init__": ["what"]},
        "Barred": {"__init__": ["bar"]},
        "TooMany": {"__init__": ["many"]},
    },
    "tasks": {"Task": {"__init__": ["alone", "both"], "__eq__": ["other"], "inputs": ["hand"], "pairs": []}},
}


def parameters(function):
    return [(each.name, each.kind) for each in inspect.signature(function).parameters.values()]


def part(module, name):
    return getattr(importlib.import_module(f"twoalone.{module}"), name)


class Interface(unittest.TestCase):
    def test_functions_stand_in_their_files_with_their_arguments(self):
        for module, functions in FUNCTIONS.items():
            for name, want in functions.items():
                with self.subTest(module, name=name):
                    function = part(module, name)
                    self.assertTrue(inspect.isfunction(function))
                    self.assertEqual(function.__module__, f"twoalone.{module}")
                    self.assertEqual(parameters(function), want)
                    defaults = [each.default for each in inspect.signature(function).parameters.values()]
                    self.assertTrue(all(default is inspect.Parameter.empty for default in defaults))

    def test_classes_stand_in_their_files_with_their_own_methods(self):
        for module, classes in CLASSES.items():
            for name, methods in classes.items():
                with self.subTest(module, name=name):
                    made = part(module, name)
                    self.assertTrue(inspect.isclass(made))
                    self.assertEqual(made.__module__, f"twoalone.{module}")
                    for method, want in methods.items():
                        self.assertIn(method, vars(made))
                        told = parameters(vars(made)[method])
                        self.assertEqual(told[1:], [(each, PLACE) for each in want])

    def test_by_place_and_by_name(self):
        alone, both = [[[0], [1]], [[2]]], {(0, 0): [(0, 2)], (1, 0): [(1, 3)]}
        task = Task(alone, both)
        self.assertEqual(Task(both=both, alone=alone), task)
        self.assertEqual(Task(alone, both=both), task)
        self.assertEqual((task.inputs(0), task.inputs(hand=0)), (2, 2))
        self.assertEqual(swapped(task=task), swapped(task))
        self.assertEqual(joint(other=near(n=2), task=task), joint(task, near(2)))
        self.assertEqual(weavings(rounds=1), weavings(1))
        self.assertEqual(known(weaving=[0, 0], inputs=(3, 4), rounds=1), known((3, 4), [0, 0], rounds=1))

    def test_rounds_of_known_by_its_name_alone(self):
        with self.assertRaises(TypeError):
            known((0, 1), [], 0)
        with self.assertRaises(TypeError):
            known((0, 1), [])
        with self.assertRaises(NoRounds):
            known((0, 1), [], rounds=None)
