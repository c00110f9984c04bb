"""Point [9]: programs run as by one machine."""

import unittest

from any_programs import KINDS, any_arrays, any_program
from any_values import HUGE, listed
from dealtarrays.arrays import Array
from dealtarrays.errors import BadInput, DealError
from dealtarrays.plain import run_plain
from dealtarrays.programs import Program
from reference import arrays_of

I = (("i", 2),)
IK = (("i", 2), ("k", 3))
JK = (("j", 2), ("k", 3))
A = Array(IK, (1, 2, 3, 4, 5, 6))
B = Array(JK, (10, 20, 30, 40, 50, 60))
V = Array(I, (7, 8))
N = Array((), (5,))
INPUTS = (("a", IK), ("b", JK), ("v", I), ("n", ()))

# Steps, the sides of what they make, and its cells.
MADE = [
    (("add", "a", "a"), IK, (2, 4, 6, 8, 10, 12)),
    (("add", "a", "v"), IK, (8, 9, 10, 12, 13, 14)),
    (("add", "v", "a"), IK, (8, 9, 10, 12, 13, 14)),
    (("add", "n", "v"), I, (12, 13)),
    (("add", "n", "n"), (), (10,)),
    (("add", "a", "b"), (("i", 2), ("j", 2), ("k", 3)), (11, 22, 33, 41, 52, 63, 14, 25, 36, 44, 55, 66)),
    (("sub", "a", "a"), IK, (0,) * 6),
    (("sub", "a", "v"), IK, (-6, -5, -4, -4, -3, -2)),
    (("sub", "v", "a"), IK, (6, 5, 4, 4, 3, 2)),
    (("sub", "n", "v"), I, (-2, -3)),
    (("sub", "v", "n"), I, (2, 3)),
    (("sub", "b", "a"), (("i", 2), ("j", 2), ("k", 3)), (9, 18, 27, 39, 48, 57, 6, 15, 24, 36, 45, 54)),
    (("mul", "v", "v"), I, (49, 64)),
    (("mul", "a", "v"), IK, (7, 14, 21, 32, 40, 48)),
    (("mul", "n", "a"), IK, (5, 10, 15, 20, 25, 30)),
    (("mul", "v", "b"), (("i", 2), ("j", 2), ("k", 3)),
     (70, 140, 210, 280, 350, 420, 80, 160, 240, 320, 400, 480)),
    (("mulsum", "a", "b", ("k",)), (("i", 2), ("j", 2)), (140, 320, 320, 770)),
    (("mulsum", "b", "a", ("k",)), (("i", 2), ("j", 2)), (140, 320, 320, 770)),
    (("mulsum", "a", "b", ("i", "j", "k")), (), (5 * 50 + 7 * 70 + 9 * 90,)),
    (("mulsum", "a", "b", ("i",)), JK, (50, 140, 270, 200, 350, 540)),
    (("mulsum", "a", "b", ("j",)), IK, (50, 140, 270, 200, 350, 540)),
    (("mulsum", "a", "v", ()), IK, (7, 14, 21, 32, 40, 48)),
    (("mulsum", "a", "a", ("i", "k")), (), (91,)),
    (("mulsum", "v", "n", ("i",)), (), (75,)),
    (("mulsum", "n", "n", ()), (), (25,)),
    (("sum", "a", ()), IK, (1, 2, 3, 4, 5, 6)),
    (("sum", "a", ("i",)), (("k", 3),), (5, 7, 9)),
    (("sum", "a", ("k",)), I, (6, 15)),
    (("sum", "a", ("i", "k")), (), (21,)),
    (("sum", "n", ()), (), (5,)),
    (("scale", "a", -3), IK, (-3, -6, -9, -12, -15, -18)),
    (("scale", "a", 0), IK, (0,) * 6),
    (("scale", "n", 10 ** 40 - 1), (), (5 * (10 ** 40 - 1),)),
    (("spread", "v", "k", 3), IK, (7, 7, 7, 8, 8, 8)),
    (("spread", "v", "h", 3), (("h", 3), ("i", 2)), (7, 8, 7, 8, 7, 8)),
    (("spread", "v", "z", 1), (("i", 2), ("z", 1)), (7, 8)),
    (("spread", "n", "i", 6), (("i", 6),), (5,) * 6),
    (("spread", "a", "j", 2), (("i", 2), ("j", 2), ("k", 3)), (1, 2, 3, 1, 2, 3, 4, 5, 6, 4, 5, 6)),
    (("turn", "a", "i", "j"), JK, (1, 2, 3, 4, 5, 6)),
    (("turn", "a", "i", "z"), (("k", 3), ("z", 2)), (1, 4, 2, 5, 3, 6)),
    (("turn", "a", "k", "h"), (("h", 3), ("i", 2)), (1, 4, 2, 5, 3, 6)),
    (("turn", "a", "k", "z"), (("i", 2), ("z", 3)), (1, 2, 3, 4, 5, 6)),
    (("shift", "a", "k", 0), IK, (1, 2, 3, 4, 5, 6)),
    (("shift", "a", "k", 1), IK, (3, 1, 2, 6, 4, 5)),
    (("shift", "a", "k", 2), IK, (2, 3, 1, 5, 6, 4)),
    (("shift", "a", "k", -1), IK, (2, 3, 1, 5, 6, 4)),
    (("shift", "a", "k", 3), IK, (1, 2, 3, 4, 5, 6)),
    (("shift", "a", "k", 301), IK, (3, 1, 2, 6, 4, 5)),
    (("shift", "a", "k", -301), IK, (2, 3, 1, 5, 6, 4)),
    (("shift", "a", "k", 10 ** 39), IK, (3, 1, 2, 6, 4, 5)),
    (("shift", "a", "k", -10 ** 39), IK, (2, 3, 1, 5, 6, 4)),
    (("shift", "a", "i", 1), IK, (4, 5, 6, 1, 2, 3)),
    (("shift", "a", "i", -7), IK, (4, 5, 6, 1, 2, 3)),
    (("pick", "a", "k", 0), I, (1, 4)),
    (("pick", "a", "k", 2), I, (3, 6)),
    (("pick", "a", "i", 0), (("k", 3),), (1, 2, 3)),
    (("pick", "a", "i", 1), (("k", 3),), (4, 5, 6)),
    (("pick", "v", "i", 1), (), (8,)),
    (("put", "v", "k", 3, 1), IK, (0, 7, 0, 0, 8, 0)),
    (("put", "v", "h", 3, 2), (("h", 3), ("i", 2)), (0, 0, 0, 0, 7, 8)),
    (("put", "n", "z", 1, 0), (("z", 1),), (5,)),
    (("put", "n", "z", 6, 5), (("z", 6),), (0, 0, 0, 0, 0, 5)),
    (("put", "a", "j", 2, 0), (("i", 2), ("j", 2), ("k", 3)), (1, 2, 3, 0, 0, 0, 4, 5, 6, 0, 0, 0)),
]


class TestSteps(unittest.TestCase):
    def test_each_kind(self):
        self.assertEqual(sorted({row[0][0] for row in MADE}), sorted(KINDS))
        for rest, sides, cells in MADE:
            found = run_plain(Program(INPUTS, (("s", *rest),)), (A, B, V, N))
            self.assertEqual((found[4].sides, found[4].cells), (sides, cells), rest)

    def test_all_of_them_in_one_program(self):
        steps = tuple((f"s{at}", *rest) for at, (rest, _, _) in enumerate(MADE))
        found = run_plain(Program(INPUTS, steps), [A, B, V, N])
        self.assertEqual(found, (A, B, V, N) + tuple(Array(sides, cells) for _, sides, cells in MADE))

    def test_steps_on_steps(self):
        steps = (("t", "turn", "a", "i", "z"), ("p", "pick", "t", "k", 1), ("q", "mul", "p", "p"),
                 ("r", "put", "q", "a", 2, 1), ("s", "sub", "r", "p"), ("u", "sum", "s", ("a", "z")))
        found = run_plain(Program(INPUTS, steps), (A, B, V, N))
        self.assertEqual([array.cells for array in found[4:]],
                         [(1, 4, 2, 5, 3, 6), (2, 5), (4, 25), (0, 0, 4, 25), (-2, -5, 2, 20), (15,)])

    def test_products_with_more_sides_and_cells_than_an_array(self):
        four, other = tuple((side, 2) for side in "abcd"), tuple((side, 2) for side in "efgh")
        program = Program((("p", four), ("q", other)), (("r", "mulsum", "p", "q", ("a", "b", "g", "h")),))
        p, q = Array(four, range_cells(16)), Array(other, range_cells(16))
        self.assertEqual(run_plain(program, (p, q)), arrays_of(program, (p, q)))
        large = (("a", 6), ("b", 6), ("c", 5))
        program = Program((("p", large), ("q", (("d", 6), ("e", 6)))), (("r", "mulsum", "p", "q", ("a", "b", "e")),))
        p, q = Array(large, range_cells(180)), Array((("d", 6), ("e", 6)), range_cells(36))
        self.assertEqual(run_plain(program, (p, q)), arrays_of(program, (p, q)))

    def test_the_largest_arrays(self):
        sides = (("a", 5), ("b", 5), ("c", 4), ("d", 2))
        array = Array(sides, range_cells(200))
        steps = (("m", "mul", "a", "a"), ("t", "turn", "m", "a", "z"), ("h", "shift", "t", "c", -3),
                 ("p", "pick", "h", "z", 4), ("s", "sum", "p", ("b", "d")))
        program = Program((("a", sides),), steps)
        self.assertEqual(run_plain(program, [array]), arrays_of(program, [array]))

    def test_cells_of_many_digits(self):
        top = 10 ** 200 - 1
        array = Array(IK, (top, -top, top - 1, 0, 1, -1))
        steps = (("m", "mul", "a", "a"), ("s", "mulsum", "a", "a", ("i", "k")), ("n", "scale", "a", 10 ** 40 - 1))
        program = Program((("a", IK),), steps)
        found = run_plain(program, (array,))
        self.assertEqual(found[1].cells, (top * top, top * top, (top - 1) ** 2, 0, 1, 1))
        self.assertEqual(found[2].cells, (2 * top * top + (top - 1) ** 2 + 2,))
        self.assertEqual(found[3].cells[1], -top * (10 ** 40 - 1))
        huge = Array(IK, (HUGE, -HUGE, 0, 0, 0, 0))
        moved = run_plain(Program((("a", IK),), (("s", "shift", "a", "k", 1), ("d", "sub", "s", "s"))), [huge])
        self.assertEqual(moved[1].cells, (0, HUGE, -HUGE, 0, 0, 0))
        self.assertEqual(moved[2].cells, (0,) * 6)

    def test_programs_of_all_kinds(self):
        for number in range(300):
            program = any_program(number, 4, 8)
            arrays = any_arrays(number, program)
            self.assertEqual(run_plain(program, arrays), arrays_of(program, arrays), number)


class TestArrays(unittest.TestCase):
    def test_no_steps_and_no_inputs(self):
        self.assertEqual(run_plain(Program((), ()), ()), ())
        self.assertEqual(run_plain(Program((), ()), []), ())
        self.assertEqual(run_plain(Program(INPUTS, ()), [A, B, V, N]), (A, B, V, N))

    def test_lists_and_tuples_unchanged(self):
        program = Program(INPUTS, (("c", "mulsum", "a", "b", ("k",)), ("d", "shift", "c", "i", 1)))
        row = [A, B, V, N]
        before = [(array.sides, array.cells) for array in row]
        found = run_plain(program, row)
        self.assertIs(type(found), tuple)
        self.assertEqual(found, run_plain(arrays=tuple(row), program=program))
        self.assertEqual([(array.sides, array.cells) for array in row], before)
        self.assertEqual(len(row), 4)
        row.clear()
        self.assertEqual(len(found), 6)
        self.assertEqual(program.steps, (("c", "mulsum", "a", "b", ("k",)), ("d", "shift", "c", "i", 1)))

    def test_sides_and_cells_of_what_is_made_are_tuples(self):
        for array in run_plain(Program(listed(INPUTS), [["c", "add", "a", "b"]]), [A, B, V, N]):
            self.assertIs(type(array), Array)
            self.assertIs(type(array.cells), tuple)
            self.assertEqual(array.sides, tuple(tuple(side) for side in array.sides))

    def test_the_same_array_for_several_inputs(self):
        program = Program((("a", IK), ("b", IK)), (("c", "sub", "a", "b"),))
        self.assertEqual(run_plain(program, (A, A))[2].cells, (0,) * 6)

    def test_bad_input(self):
        program = Program(INPUTS, (("c", "add", "a", "b"),))
        good = [A, B, V, N]
        others = [
            Array((), (1,)), Array((("i", 3),), (1, 2, 3)), Array((("k", 2),), (1, 2)), Array((("i", 1),), (1,)),
            Array((("i", 3), ("k", 2)), range_cells(6)), Array((("i", 2), ("j", 3)), range_cells(6)),
            Array((("i", 6),), range_cells(6)), Array((("i", 2), ("k", 3), ("z", 1)), range_cells(6)),
        ]
        for first in range(4):
            for other in others:
                if other.sides == good[first].sides:
                    continue
                self.check_bad(program, good[:first] + [other] + good[first + 1:], first)
                self.check_bad(program, tuple(good[:first] + [other] * (4 - first)), first)

    def test_arrays_in_another_order(self):
        program = Program((("a", IK), ("b", JK)), ())
        self.check_bad(program, (B, A), 0)
        self.check_bad(program, (A, A), 1)
        self.check_bad(program, [B, B], 0)

    def check_bad(self, program, arrays, number):
        with self.assertRaises(BadInput) as caught:
            run_plain(program, arrays)
        self.assertIs(type(caught.exception.number), int)
        self.assertEqual(caught.exception.number, number)
        self.assertIsInstance(caught.exception, DealError)


def range_cells(many):
    return tuple((7 * at + 3) % 11 - 5 for at in range(many))


if __name__ == "__main__":
    unittest.main()
