"""Point [10]: the slopes of a program are a program again."""

import unittest

from any_programs import KINDS, Dice, any_array, any_arrays, any_program
from any_values import ANY_VALUES, listed
from dealtarrays.arrays import Array
from dealtarrays.errors import DealError, NoName
from dealtarrays.plain import run_plain
from dealtarrays.programs import Program, operands
from dealtarrays.slopes import slopes
from reference import Dual, run

I = (("i", 2),)
IK = (("i", 2), ("k", 3))
JK = (("j", 2), ("k", 3))
INPUTS = (("a", IK), ("b", JK), ("v", I), ("n", ()))

# A step of each kind, with operands that have the same, some and no sides in common, twice the same operand too.
STEPS = [
    ("add", "a", "a"), ("add", "a", "v"), ("add", "v", "a"), ("add", "a", "b"), ("add", "n", "b"),
    ("sub", "a", "a"), ("sub", "a", "v"), ("sub", "v", "a"), ("sub", "b", "a"), ("sub", "n", "b"),
    ("mul", "a", "a"), ("mul", "a", "v"), ("mul", "v", "a"), ("mul", "a", "b"), ("mul", "b", "n"), ("mul", "n", "n"),
    ("mulsum", "a", "b", ()), ("mulsum", "a", "b", ("k",)), ("mulsum", "a", "b", ("i",)), ("mulsum", "b", "a", ("i",)),
    ("mulsum", "a", "b", ("i", "j")), ("mulsum", "a", "b", ("i", "j", "k")), ("mulsum", "a", "a", ("k",)),
    ("mulsum", "n", "a", ("i", "k")), ("mulsum", "a", "n", ("i", "k")), ("mulsum", "v", "v", ("i",)),
    ("sum", "a", ()), ("sum", "a", ("i",)), ("sum", "a", ("k",)), ("sum", "a", ("i", "k")), ("sum", "n", ()),
    ("scale", "a", -3), ("scale", "a", 0), ("scale", "n", 10 ** 40 - 1), ("scale", "b", 1 - 10 ** 40),
    ("spread", "a", "j", 2), ("spread", "v", "h", 3), ("spread", "n", "z", 1),
    ("turn", "a", "i", "z"), ("turn", "a", "k", "h"), ("turn", "v", "i", "x"),
    ("shift", "a", "k", 1), ("shift", "a", "k", -5), ("shift", "a", "i", 0), ("shift", "a", "k", 10 ** 40 - 1),
    ("pick", "a", "k", 0), ("pick", "a", "k", 2), ("pick", "a", "i", 1), ("pick", "v", "i", 0),
    ("put", "a", "j", 2, 1), ("put", "v", "h", 3, 0), ("put", "n", "z", 1, 0), ("put", "n", "z", 6, 5),
]


def reckoned(program, arrays, name, seed):
    """For each input the slopes, by a run for each of its cells to which t is added."""
    found = []
    for number, array in enumerate(arrays):
        cells = []
        for at in range(len(array.cells)):
            rows = [
                [Dual(cell, 1 if (i, k) == (number, at) else 0) for k, cell in enumerate(other.cells)]
                for i, other in enumerate(arrays)
            ]
            made = run(program, rows, Dual)[name][1]
            cells.append(sum(cell * dual.slope for cell, dual in zip(seed.cells, made.values())))
        found.append(Array(array.sides, cells))
    return found


def hangs_on(program, name):
    """All names on which the array name hangs, with itself."""
    found = {name}
    for step in reversed(program.steps):
        if step[0] in found:
            found.update(operands(step))
    return found


class SlopesCase(unittest.TestCase):
    def check_shape(self, program, name, seed):
        found = slopes(program, name, seed)
        self.assertIs(type(found), tuple)
        self.assertEqual(len(found), 2)
        other, names = found
        self.assertIs(type(other), Program)
        self.assertIs(type(names), tuple)
        self.assertEqual(len(names), len(program.inputs))
        self.assertEqual(other.inputs, program.inputs + ((seed, program.sides_of(name)),))
        self.assertEqual(other.steps[:len(program.steps)], program.steps)
        on = hangs_on(program, name)
        for (own, sides), slope in zip(program.inputs, names):
            self.assertEqual(slope is not None, own in on, (own, name))
            if slope is not None:
                self.assertEqual(other.sides_of(slope), sides)
            if own == name:
                self.assertEqual(slope, seed)
        return other, names

    def check(self, program, arrays, name, number=0):
        """Shape and slopes for a seed of mixed cells; returns the program of the slopes, their names, and arrays."""
        other, names = self.check_shape(program, name, "seed")
        seed = any_array(Dice(number), program.sides_of(name))
        more = (*arrays, seed)
        made = dict(zip(other.names(), run_plain(other, more)))
        for slope, expected in zip(names, reckoned(program, arrays, name, seed)):
            if slope is None:
                self.assertFalse(any(expected.cells))
            else:
                self.assertEqual(made[slope], expected, (name, program.steps))
        return other, names, more


class TestSlopes(SlopesCase):
    def test_each_kind(self):
        self.assertEqual(sorted({step[0] for step in STEPS}), sorted(KINDS))
        for number, rest in enumerate(STEPS):
            program = Program(INPUTS, (("s", *rest),))
            self.check(program, any_arrays(number, program), "s", number)

    def test_each_kind_ahead_of_and_behind_others(self):
        ahead = (("x", "mulsum", "a", "v", ()), ("y", "add", "b", "n"), ("w", "mul", "v", "v"), ("m", "scale", "n", 3))
        for number, rest in enumerate(STEPS):
            renamed = tuple({"a": "x", "b": "y", "v": "w", "n": "m"}.get(part, part) for part in rest)
            sides = Program(INPUTS, (*ahead, ("s", *renamed))).sides_of("s")
            behind = (("s", *renamed), ("q", "mulsum", "s", "s", tuple(side for side, _ in sides)))
            program = Program(INPUTS, ahead + behind)
            self.check(program, any_arrays(number, program), "q", number)

    def test_programs_of_all_kinds(self):
        for number in range(120):
            program = any_program(number, 3, 7)
            self.check(program, any_arrays(number, program), program.names()[-1], number)

    def test_each_name_of_a_program(self):
        for number in range(0, 100, 10):
            program = any_program(number, 4, 8)
            for name in program.names():
                self.check(program, any_arrays(number, program), name, number)

    def test_known_slopes(self):
        steps = (("p", "mul", "x", "x"), ("q", "mul", "p", "y"), ("r", "sub", "q", "x"))
        program = Program((("x", ()), ("y", ())), steps)
        other, (by_x, by_y) = slopes(program, "r", "t")
        for x, y, t in [(3, 5, 1), (-2, 7, 1), (0, 0, 1), (4, -1, -6)]:
            cells = dict(zip(other.names(), run_plain(other, [Array((), (value,)) for value in (x, y, t)])))
            self.assertEqual(cells[by_x].cells, (t * (2 * x * y - 1),))
            self.assertEqual(cells[by_y].cells, (t * x * x,))

    def test_slopes_that_are_all_zero_are_no_none(self):
        for steps in [
            (("s", "sub", "a", "a"),), (("s", "scale", "a", 0),),
            (("p", "put", "a", "j", 2, 0), ("s", "pick", "p", "j", 1)),
            (("p", "sub", "a", "a"), ("s", "mul", "p", "p")),
            (("p", "scale", "v", 0), ("s", "mul", "p", "a")),
        ]:
            program = Program(INPUTS, steps)
            _, names = self.check_shape(program, "s", "seed")
            self.assertIsNotNone(names[0])
            self.check(program, any_arrays(3, program), "s")

    def test_cells_that_are_zero(self):
        for number in range(0, 60, 6):
            program = any_program(number, 3, 6)
            arrays = [Array(sides, [0] * len(array.cells))
                      for (_, sides), array in zip(program.inputs, any_arrays(0, program))]
            self.check(program, arrays, program.names()[-1], number)

    def test_more_than_one_way_from_an_input(self):
        steps = (("c", "add", "a", "v"), ("d", "sub", "c", "a"), ("e", "mul", "d", "c"),
                 ("f", "mulsum", "e", "a", ("i",)), ("g", "add", "f", "n"), ("h", "mul", "g", "g"),
                 ("l", "sub", "h", "f"), ("m", "sub", "f", "h"))
        program = Program(INPUTS, steps)
        for name in program.names():
            self.check(program, any_arrays(5, program), name)


class TestNone(SlopesCase):
    def test_an_input_itself(self):
        program = Program(INPUTS, (("s", "add", "a", "b"), ("t", "mul", "s", "v")))
        for at, (name, _) in enumerate(INPUTS):
            other, names = self.check_shape(program, name, "seed")
            self.assertEqual(names, tuple("seed" if own == at else None for own in range(4)))
            self.assertEqual(other.names()[:7], ("a", "b", "v", "n", "seed", "s", "t"))

    def test_inputs_that_are_used_beside_or_behind_the_way(self):
        steps = (("s", "scale", "a", 2), ("t", "mul", "b", "b"), ("u", "add", "s", "n"), ("w", "mul", "u", "v"))
        program = Program(INPUTS, steps)
        for name, on in [("s", "a"), ("t", "b"), ("u", "an"), ("w", "anv")]:
            _, names = self.check_shape(program, name, "seed")
            self.assertEqual("".join(own for own, slope in zip("abvn", names) if slope is not None), "".join(
                own for own in "abvn" if own in on))

    def test_five_inputs(self):
        inputs = tuple((f"a{at}", ()) for at in range(5))
        program = Program(inputs, (("s", "add", "a0", "a4"),))
        other, names = self.check_shape(program, "s", "seed")
        self.assertEqual(len(other.inputs), 6)
        self.assertEqual([name is None for name in names], [False, True, True, True, False])


class TestNames(SlopesCase):
    def test_no_name(self):
        program = Program(INPUTS, (("s", "add", "a", "b"),))
        for name in ANY_VALUES + ["x", "seed", "input", "add", "i", ("s",), ["a"], INPUTS[0]]:
            if isinstance(name, str) and name in program.names():
                continue
            with self.assertRaises(NoName) as caught:
                slopes(program, name, "seed")
            self.assertIs(caught.exception.name, name)
            self.assertIsInstance(caught.exception, DealError)
        with self.assertRaises(NoName):
            slopes(Program((), ()), "s", "seed")

    def test_names_that_new_steps_may_not_take(self):
        # Whatever names the new steps have, the program may have had them before.
        program = Program((("a", I),), (("s", "mul", "a", "a"), ("t", "mul", "s", "a")))
        names = ["a", "s", "t"]
        for _ in range(4):
            other, _ = self.check_shape(program, "t", "seed")
            taken = [name for name in other.names() if name not in program.names() and name != "seed"]
            self.assertTrue(taken)
            steps = [(name, "scale", "a", 1) for name in taken]
            program = Program(program.inputs, (*program.steps, *steps))
            names += taken
        self.assertEqual(len(set(names)), len(names))

    def test_a_seed_that_new_steps_may_not_take(self):
        program = Program((("a", I),), (("s", "mul", "a", "a"), ("t", "mul", "s", "a")))
        other, _ = slopes(program, "t", "seed")
        for seed in other.names()[4:] + ("z", "zzzzzzzz", "a0", "add"):
            self.check_shape(program, "t", seed)

    def test_arguments_by_name_and_unchanged(self):
        inputs, steps = listed(INPUTS), [["s", "mulsum", "a", "b", ["k"]]]
        program = Program(inputs, steps)
        before = (program.inputs, program.steps, program.names())
        other, names = slopes(seed="seed", name="s", program=program)
        again, same = slopes(program, "s", "seed")
        self.assertEqual((other.inputs, other.steps, names), (again.inputs, again.steps, same))
        self.assertEqual((program.inputs, program.steps, program.names()), before)


class TestSlopesOfSlopes(SlopesCase):
    def test_a_cube(self):
        program = Program((("x", ()),), (("p", "mul", "x", "x"), ("q", "mul", "p", "x")))
        other, (first,) = slopes(program, "q", "s")
        again, (second, by_s) = slopes(other, first, "t")
        self.assertEqual(again.inputs, (("x", ()), ("s", ()), ("t", ())))
        for x in range(-4, 5):
            cells = dict(zip(again.names(), run_plain(again, [Array((), (value,)) for value in (x, 2, 5)])))
            self.assertEqual(cells[first].cells, (3 * x * x * 2,))
            self.assertEqual(cells[second].cells, (6 * x * 2 * 5,))
            self.assertEqual(cells[by_s].cells, (3 * x * x * 5,))

    def test_programs_of_all_kinds(self):
        count = 0
        for number in range(40):
            program = any_program(number, 3, 5)
            arrays = any_arrays(number, program)
            other, names, more = self.check(program, arrays, program.names()[-1], number)
            for name in sorted({name for name in names if name not in (None, "seed")}):
                again, found = self.check_shape(other, name, "more")
                seed = any_array(Dice(number), other.sides_of(name))
                made = dict(zip(again.names(), run_plain(again, (*more, seed))))
                for slope, expected in zip(found, reckoned(other, more, name, seed)):
                    if slope is not None:
                        count += 1
                        self.assertEqual(made[slope], expected)
        self.assertGreater(count, 50)

    def test_how_many_steps(self):
        # Programs that slopes makes have at most 120 steps.
        four, other = tuple((side, 2) for side in "abcd"), tuple((side, 2) for side in "efgh")
        names = tuple("abcdefgh")
        steps = [(f"s{at}", "mulsum", "p", "q", names) for at in range(7)] + [("t", "add", "s0", "s1")]
        found, _ = slopes(Program((("p", four), ("q", other)), steps), "t", "seed")
        self.assertLessEqual(len(found.steps), 120)
        for kind in ("add", "sub", "mul"):
            steps = [(f"s{at}", kind, f"s{at - 1}" if at else "v", f"s{at - 1}" if at else "v") for at in range(8)]
            found, (slope,) = slopes(Program((("v", I),), steps), "s7", "seed")
            self.assertLessEqual(len(found.steps), 120)
            self.assertLessEqual(len(slopes(found, slope, "more")[0].steps), 120)


if __name__ == "__main__":
    unittest.main()
