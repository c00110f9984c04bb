"""Point [4]: the errors."""

import unittest

from any_values import ANY_VALUES, HUGE, nested
from dealtarrays import errors
from dealtarrays.errors import DealError

ATTRIBUTES = {
    "InvalidSides": ("sides",),
    "InvalidCells": ("cells",),
    "InvalidInputs": ("inputs",),
    "NoFit": ("number",),
    "NoName": ("name",),
    "BadInput": ("number",),
    "InvalidGrid": ("directions",),
    "InvalidDealing": ("cuts", "parts"),
    "NoMachine": ("machine",),
    "NoDealing": ("number",),
    "Quarrel": ("machine",),
    "NoLetter": ("number",),
    "InvalidText": ("text", "at"),
    "TooMany": ("many",),
    "NotDone": ("machine",),
}

VALUES = [0, -3, HUGE, True, False, None, "", "a text", (), (1, ("a",)), [], [1, ["a"]], nested(10, 1)] + ANY_VALUES


def error_class(name):
    return getattr(errors, name)


class TestErrors(unittest.TestCase):
    def test_there_are_fifteen_under_deal_error(self):
        found = [name for name, value in vars(errors).items() if isinstance(value, type) and value is not DealError]
        self.assertEqual(sorted(found), sorted(ATTRIBUTES))
        self.assertEqual(len(ATTRIBUTES), 15)

    def test_each_stands_directly_under_deal_error(self):
        self.assertEqual(DealError.__bases__, (ValueError,))
        for name in ATTRIBUTES:
            self.assertEqual(error_class(name).__bases__, (DealError,), name)

    def check_kept(self, error, attributes, values):
        for attribute, value in zip(attributes, values):
            self.assertIs(getattr(error, attribute), value)

    def test_values_are_kept_by_order_and_by_name(self):
        for name, attributes in ATTRIBUTES.items():
            make = error_class(name)
            for at in range(len(VALUES)):
                values = [VALUES[(at + more) % len(VALUES)] for more in range(len(attributes))]
                self.check_kept(make(*values), attributes, values)
                self.check_kept(make(**dict(zip(attributes, values))), attributes, values)

    def test_two_arguments_are_kept_apart(self):
        for name, first, second in [("InvalidDealing", "cuts", "parts"), ("InvalidText", "text", "at")]:
            error = error_class(name)("one", "two")
            self.assertEqual((getattr(error, first), getattr(error, second)), ("one", "two"))
            error = error_class(name)(**{second: "two", first: "one"})
            self.assertEqual((getattr(error, first), getattr(error, second)), ("one", "two"))

    def test_arguments_are_as_many_as_told(self):
        for name, attributes in ATTRIBUTES.items():
            make = error_class(name)
            with self.assertRaises(TypeError):
                make()
            with self.assertRaises(TypeError):
                make(*([1] * (len(attributes) + 1)))

    def test_each_is_caught_as_itself_and_as_deal_error_and_as_no_other(self):
        for name, attributes in ATTRIBUTES.items():
            error = error_class(name)(*([7] * len(attributes)))
            for kind in (error_class(name), DealError, ValueError):
                with self.assertRaises(kind):
                    raise error
            for other in ATTRIBUTES:
                self.assertEqual(isinstance(error, error_class(other)), other == name, (name, other))

    def test_an_error_is_unlike_anything_of_another_kind(self):
        for name, attributes in ATTRIBUTES.items():
            error = error_class(name)(*([7] * len(attributes)))
            for other in (7, (7,), None, "7", DealError()):
                self.assertIs(error == other, False)
                self.assertIs(error != other, True)
