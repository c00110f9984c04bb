"""The interface: everything exists under its name, in its file, with its arguments."""

import inspect
import unittest

from dealtarrays import (
    arrays, audits, errors, exchanges, grids, makes, memory, moves, papers, pieces, plain, planners, plans, programs,
    roads, runs, slopes, texts, tidy,
)

FUNCTIONS = [
    (arrays, "places", ["sides"]),
    (arrays, "is_sides", ["sides"]),
    (programs, "operands", ["step"]),
    (texts, "write_program", ["program"]),
    (texts, "read_program", ["text"]),
    (plain, "run_plain", ["program", "arrays"]),
    (slopes, "slopes", ["program", "name", "seed"]),
    (grids, "fits", ["dealing", "sides", "grid"]),
    (grids, "dealings", ["sides", "grid"]),
    (grids, "places_of", ["dealing", "sides", "grid", "machine"]),
    (pieces, "cut_array", ["array", "dealing", "grid"]),
    (pieces, "join_pieces", ["pieces", "sides", "dealing", "grid"]),
    (makes, "may_deal", ["program", "number", "dealing", "grid"]),
    (makes, "operand_dealing", ["program", "number", "dealing", "at"]),
    (makes, "made_dealing", ["program", "number", "dealing"]),
    (makes, "make_piece", ["program", "number", "dealing", "grid", "machine", "pieces"]),
    (exchanges, "letters_of", ["sides", "dealing", "other", "grid"]),
    (exchanges, "numbers_sent", ["sides", "dealing", "other", "grid"]),
    (exchanges, "exchanged", ["pieces", "sides", "dealing", "other", "grid"]),
    (moves, "letters_moved", ["sides", "dealing", "grid", "other", "target"]),
    (moves, "numbers_moved", ["sides", "dealing", "grid", "other", "target"]),
    (moves, "moved", ["pieces", "sides", "dealing", "grid", "other", "target"]),
    (roads, "least_road", ["sides", "dealing", "other", "grid"]),
    (roads, "distances", ["sides", "dealing", "grid"]),
    (plans, "piece_rounds", ["plan"]),
    (audits, "faults", ["run"]),
    (audits, "is_due", ["plan", "arrays", "letter"]),
    (memory, "most_held", ["plan"]),
    (memory, "best_plan_within", ["program", "grid", "given", "wanted", "most"]),
    (tidy, "tidied", ["program", "wanted"]),
    (tidy, "for_each", ["program", "side", "size", "names"]),
    (tidy, "split_program", ["program", "number", "wanted"]),
    (planners, "step_dealings", ["program", "number", "grid"]),
]

# What has by_roads behind these, which is passed by its name only and is False unless it is passed.
BY_ROADS = [
    (plans, "Plan", ["program", "grid", "given", "dealt", "wanted"]),
    (planners, "best_plan", ["program", "grid", "given", "wanted"]),
    (papers, "cost_paper", ["program", "grid", "given", "wanted"]),
    (papers, "judge", ["program", "grid", "given", "wanted", "paper", "cost"]),
]

# For each class what makes an object, and its methods.
CLASSES = [
    (errors, "DealError", None, []),
    (errors, "InvalidSides", ["sides"], []),
    (errors, "InvalidCells", ["cells"], []),
    (errors, "InvalidInputs", ["inputs"], []),
    (errors, "NoFit", ["number"], []),
    (errors, "NoName", ["name"], []),
    (errors, "BadInput", ["number"], []),
    (errors, "InvalidGrid", ["directions"], []),
    (errors, "InvalidDealing", ["cuts", "parts"], []),
    (errors, "NoMachine", ["machine"], []),
    (errors, "NoDealing", ["number"], []),
    (errors, "Quarrel", ["machine"], []),
    (errors, "NoLetter", ["number"], []),
    (errors, "InvalidText", ["text", "at"], []),
    (errors, "TooMany", ["many"], []),
    (errors, "NotDone", ["machine"], []),
    (arrays, "Array", ["sides", "cells"], [("cell", ["place"]), ("__eq__", ["other"])]),
    (programs, "Program", ["inputs", "steps"], [("names", []), ("sides_of", ["name"])]),
    (grids, "Grid", ["directions"], [("place_of", ["machine"]), ("machine_at", ["place"]), ("__eq__", ["other"])]),
    (grids, "Dealing", ["cuts", "parts"], [("__eq__", ["other"])]),
    (plans, "Plan", None, [("__init__", ["program", "grid", "given", "dealt", "wanted", "by_roads"])]),
    (runs, "Run", ["plan", "arrays"], [
        ("post", ["machine"]), ("letters", []), ("deliver", ["number"]), ("double", ["number"]), ("lose", ["number"]),
        ("round_of", ["machine"]), ("keep", ["machine"]), ("fall", ["machine"]), ("is_done", []), ("calm", []),
        ("piece", ["machine", "name"]), ("joined", ["name"]), ("__len__", []),
    ]),
]

PLAN = plans.Plan(programs.Program((("a", ()),), ()), grids.Grid((("x", 2),)), (grids.Dealing((), ()),), (), ())

OBJECTS = [
    (arrays.Array((("i", 2),), (1, 2)), ["sides", "cells"]),
    (programs.Program((("a", ()),), (("b", "scale", "a", 2),)), ["inputs", "steps"]),
    (grids.Grid((("x", 2),)), ["directions", "many"]),
    (grids.Dealing((("i", "blocks", "x"),), ("y",)), ["cuts", "parts"]),
    (PLAN, ["program", "grid", "given", "dealt", "wanted", "by_roads", "cost", "rounds"]),
]


def arguments(function):
    return [name for name in inspect.signature(function).parameters if name != "self"]


class TestInterface(unittest.TestCase):
    def test_functions(self):
        for module, name, expected in FUNCTIONS:
            function = getattr(module, name)
            self.assertTrue(inspect.isfunction(function), name)
            self.assertEqual(function.__module__, module.__name__)
            self.assertEqual(arguments(function), expected, name)

    def test_classes(self):
        for module, name, expected, methods in CLASSES:
            found = getattr(module, name)
            self.assertTrue(inspect.isclass(found), name)
            self.assertEqual(found.__module__, module.__name__)
            if expected is not None:
                self.assertEqual(arguments(found), expected, name)
                self.assertIn("__init__", vars(found))
            for method, more in methods:
                self.assertIn(method, vars(found), name)
                self.assertEqual(arguments(vars(found)[method]), more, (name, method))

    def test_by_roads(self):
        for module, name, expected in BY_ROADS:
            found = getattr(module, name)
            self.assertEqual(found.__module__, module.__name__)
            *others, last = inspect.signature(found).parameters.values()
            self.assertEqual([parameter.name for parameter in others], expected)
            self.assertTrue(all(parameter.kind is parameter.POSITIONAL_OR_KEYWORD for parameter in others))
            self.assertEqual((last.name, last.kind, last.default), ("by_roads", last.KEYWORD_ONLY, False))

    def test_said_is_a_property_of_runs(self):
        self.assertIsInstance(vars(runs.Run)["said"], property)
        self.assertIs(type(runs.Run(PLAN, (arrays.Array((), (1,)),)).said), int)

    def test_attributes_are_set_when_an_object_is_created(self):
        for found, attributes in OBJECTS:
            for name in attributes:
                self.assertIn(name, vars(found))
