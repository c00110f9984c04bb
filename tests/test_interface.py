"""The interface: what has landed exists under its name, in its file, with its arguments."""

import inspect
import unittest

from dealtarrays import (
    arrays, errors, exchanges, grids, makes, moves, pieces, plain, programs, slopes, texts,
)

FUNCTIONS = [
    (arrays, "places", ["sides"]),
    (arrays, "is_sides", ["sides"]),
    (programs, "operands", ["step"]),
    (texts, "write_program", ["program"]),
    (texts, "read_program", ["text"]),
    (plain, "run_plain", ["program", "arrays"]),
    (slopes, "slopes", ["program", "name", "seed"]),
    (grids, "fits", ["dealing", "sides", "grid"]),
    (grids, "dealings", ["sides", "grid"]),
    (grids, "places_of", ["dealing", "sides", "grid", "machine"]),
    (pieces, "cut_array", ["array", "dealing", "grid"]),
    (pieces, "join_pieces", ["pieces", "sides", "dealing", "grid"]),
    (makes, "may_deal", ["program", "number", "dealing", "grid"]),
    (makes, "operand_dealing", ["program", "number", "dealing", "at"]),
    (makes, "made_dealing", ["program", "number", "dealing"]),
    (makes, "make_piece", ["program", "number", "dealing", "grid", "machine", "pieces"]),
    (exchanges, "letters_of", ["sides", "dealing", "other", "grid"]),
    (exchanges, "numbers_sent", ["sides", "dealing", "other", "grid"]),
    (exchanges, "exchanged", ["pieces", "sides", "dealing", "other", "grid"]),
    (moves, "letters_moved", ["sides", "dealing", "grid", "other", "target"]),
    (moves, "numbers_moved", ["sides", "dealing", "grid", "other", "target"]),
    (moves, "moved", ["pieces", "sides", "dealing", "grid", "other", "target"]),
]

# For each class what makes an object, and its methods.
CLASSES = [
    (errors, "DealError", None, []),
    (errors, "InvalidSides", ["sides"], []),
    (errors, "InvalidCells", ["cells"], []),
    (errors, "InvalidInputs", ["inputs"], []),
    (errors, "NoFit", ["number"], []),
    (errors, "NoName", ["name"], []),
    (errors, "BadInput", ["number"], []),
    (errors, "InvalidGrid", ["directions"], []),
    (errors, "InvalidDealing", ["cuts", "parts"], []),
    (errors, "NoMachine", ["machine"], []),
    (errors, "NoDealing", ["number"], []),
    (errors, "Quarrel", ["machine"], []),
    (errors, "NoLetter", ["number"], []),
    (errors, "InvalidText", ["text", "at"], []),
    (errors, "TooMany", ["many"], []),
    (errors, "NotDone", ["machine"], []),
    (arrays, "Array", ["sides", "cells"], [("cell", ["place"]), ("__eq__", ["other"])]),
    (programs, "Program", ["inputs", "steps"], [("names", []), ("sides_of", ["name"])]),
    (grids, "Grid", ["directions"], [("place_of", ["machine"]), ("machine_at", ["place"]), ("__eq__", ["other"])]),
    (grids, "Dealing", ["cuts", "parts"], [("__eq__", ["other"])]),
]

OBJECTS = [
    (arrays.Array((("i", 2),), (1, 2)), ["sides", "cells"]),
    (programs.Program((("a", ()),), (("b", "scale", "a", 2),)), ["inputs", "steps"]),
    (grids.Grid((("x", 2),)), ["directions", "many"]),
    (grids.Dealing((("i", "blocks", "x"),), ("y",)), ["cuts", "parts"]),
]


def arguments(function):
    return [name for name in inspect.signature(function).parameters if name != "self"]


class TestInterface(unittest.TestCase):
    def test_functions(self):
        for module, name, expected in FUNCTIONS:
            function = getattr(module, name)
            self.assertTrue(inspect.isfunction(function), name)
            self.assertEqual(function.__module__, module.__name__)
            self.assertEqual(arguments(function), expected, name)

    def test_classes(self):
        for module, name, expected, methods in CLASSES:
            found = getattr(module, name)
            self.assertTrue(inspect.isclass(found), name)
            self.assertEqual(found.__module__, module.__name__)
            if expected is not None:
                self.assertEqual(arguments(found), expected, name)
                self.assertIn("__init__", vars(found))
            for method, more in methods:
                self.assertIn(method, vars(found), name)
                self.assertEqual(arguments(vars(found)[method]), more, (name, method))

    def test_attributes_are_set_when_an_object_is_created(self):
        for found, attributes in OBJECTS:
            for name in attributes:
                self.assertIn(name, vars(found))
