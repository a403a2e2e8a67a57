import copy
import unittest

from tests.things import odd_things
from twoalone import errors

FIELDS = {"NoTask": "what", "Barred": "bar", "TooMany": "many"}
TEXTS = [
    "NoHand", "NoJoint", "NoRounds", "NoInputs", "NoWeaving", "NoKnown", "NoProtocol", "NoChoice",
    "NoMade", "NoText",
]


def called(name):
    return getattr(errors, name)


class Errors(unittest.TestCase):
    def test_alone_error_is_a_value_error(self):
        self.assertEqual(errors.AloneError.__bases__, (ValueError,))
        self.assertEqual(str(errors.AloneError("why")), "why")

    def test_each_refusal_stands_straight_under_alone_error(self):
        for name in [*FIELDS, *TEXTS]:
            with self.subTest(name):
                self.assertEqual(called(name).__bases__, (errors.AloneError,))

    def test_there_are_no_other_refusals(self):
        found = [name for name, thing in vars(errors).items() if isinstance(thing, type)]
        self.assertEqual(sorted(found), sorted(["AloneError", *FIELDS, *TEXTS]))

    def test_fields_by_place_and_by_name(self):
        for name, field in FIELDS.items():
            for thing in [*odd_things(), 7, -1, "both", ("apart", (0, 0), [])]:
                with self.subTest(name, thing=repr(thing)):
                    self.assertIs(getattr(called(name)(thing), field), thing)
                    self.assertIs(getattr(called(name)(**{field: thing}), field), thing)

    def test_fields_of_two_objects_are_their_own(self):
        for name, field in FIELDS.items():
            first, second = called(name)("one"), called(name)("two")
            self.assertEqual(getattr(first, field), "one")
            self.assertEqual(getattr(second, field), "two")

    def test_a_field_must_be_handed_in(self):
        for name in FIELDS:
            with self.assertRaises(TypeError):
                called(name)()

    def test_refusals_with_a_field_can_be_copied(self):
        for name, field in FIELDS.items():
            for made in [called(name)("one"), called(name)(**{field: "one"})]:
                self.assertEqual(getattr(copy.copy(made), field), "one")

    def test_the_others_are_made_of_one_text(self):
        for name in TEXTS:
            with self.subTest(name):
                self.assertEqual(str(called(name)("why")), "why")

    def test_each_is_caught_as_alone_error_and_as_no_other_one(self):
        for name in [*FIELDS, *TEXTS]:
            made = called(name)("why")
            with self.subTest(name), self.assertRaises(errors.AloneError):
                raise made
            self.assertIsInstance(made, ValueError)
            others = [other for other in [*FIELDS, *TEXTS] if other != name]
            self.assertFalse([other for other in others if isinstance(made, called(other))])
