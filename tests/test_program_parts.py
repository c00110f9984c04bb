"""Point [7]: what a program tells of itself, and operands."""

import unittest

from any_values import ANY_VALUES, listed
from dealtarrays.errors import NoName
from dealtarrays.programs import Program, operands

IK = (("i", 2), ("k", 3))
INPUTS = (("b", IK), ("a", (("k", 3),)), ("n", ()))
STEPS = (
    ("z", "add", "b", "a"),
    ("c", "sub", "a", "z"),
    ("d", "mul", "c", "c"),
    ("e", "mulsum", "b", "z", ("i", "k")),
    ("f", "sum", "d", ("k",)),
    ("g", "scale", "b", -2),
    ("h", "spread", "g", "a", 4),
    ("i", "turn", "h", "i", "x"),
    ("j", "shift", "i", "k", -5),
    ("k", "pick", "j", "a", 3),
    ("l", "put", "k", "b", 2, 1),
)
SIDES = {
    "b": IK, "a": (("k", 3),), "n": (), "z": IK, "c": IK, "d": IK, "e": (), "f": (("i", 2),), "g": IK,
    "h": (("a", 4), ("i", 2), ("k", 3)), "i": (("a", 4), ("k", 3), ("x", 2)), "j": (("a", 4), ("k", 3), ("x", 2)),
    "k": (("k", 3), ("x", 2)), "l": (("b", 2), ("k", 3), ("x", 2)),
}
USED = [("b", "a"), ("a", "z"), ("c", "c"), ("b", "z"), ("d",), ("b",), ("g",), ("h",), ("i",), ("j",), ("k",)]


class TestProgramParts(unittest.TestCase):
    def setUp(self):
        self.programs = [Program(INPUTS, STEPS), Program(listed(INPUTS), listed(STEPS)), Program(INPUTS, listed(STEPS))]

    def test_inputs_and_steps_are_tuples_inside_of_one_another_too(self):
        # A list is unlike a tuple, so equality tells that there is no list at any depth.
        for program in self.programs:
            self.assertEqual(program.inputs, INPUTS)
            self.assertEqual(program.steps, STEPS)

    def test_attributes_are_set_on_the_object(self):
        for program in self.programs:
            self.assertIn("inputs", vars(program))
            self.assertIn("steps", vars(program))

    def test_names_in_order(self):
        for program in self.programs:
            self.assertEqual(program.names(), ("b", "a", "n", "z", "c", "d", "e", "f", "g", "h", "i", "j", "k", "l"))
        self.assertEqual(Program((), ()).names(), ())

    def test_sides_of_inputs_and_of_what_each_kind_makes(self):
        for program in self.programs:
            for name in program.names():
                self.assertEqual(program.sides_of(name), SIDES[name], name)

    def test_no_name(self):
        for program in self.programs:
            for name in ANY_VALUES + ["x", "input", "add", "mulsum", "bb", ("b",), ["b"], ("b", IK), INPUTS[0]]:
                if isinstance(name, str) and name in SIDES:
                    continue
                with self.assertRaises(NoName) as caught:
                    program.sides_of(name)
                self.assertIs(caught.exception.name, name)

    def test_a_name_of_another_program(self):
        with self.assertRaises(NoName):
            Program(INPUTS, STEPS[:1]).sides_of("c")
        with self.assertRaises(NoName):
            Program((), ()).sides_of("b")

    def test_operands_of_each_kind(self):
        for step, used in zip(STEPS, USED):
            self.assertEqual(operands(step), used)
            self.assertEqual(operands(listed(step)), used)
            self.assertIsInstance(operands(listed(step)), tuple)

    def test_operands_that_are_the_same_twice(self):
        for kind in ("add", "sub", "mul"):
            self.assertEqual(operands(("c", kind, "a", "a")), ("a", "a"))
        self.assertEqual(operands(("c", "mulsum", "a", "a", ("k",))), ("a", "a"))
        self.assertEqual(operands(("c", "mulsum", "a", "a", ())), ("a", "a"))

    def test_later_changes_have_no_effect(self):
        inputs, steps = listed(INPUTS), listed(STEPS)
        program = Program(inputs, steps)
        inputs[0][1][0][1] = 6
        inputs[0][1].append(["z", 2])
        inputs[1][0] = "q"
        steps[3][4].append("z")
        steps[3][4][0] = "q"
        steps[0][1] = "nothing"
        steps.clear()
        self.assertEqual(program.inputs, INPUTS)
        self.assertEqual(program.steps, STEPS)
        self.assertEqual(program.sides_of("b"), IK)
        self.assertEqual(program.names(), self.programs[0].names())
