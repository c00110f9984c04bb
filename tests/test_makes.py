"""Points [15] and [16]: steps made by machines."""

import itertools
import unittest

from any_plans import all_step_dealings, index_sides
from any_programs import any_arrays, any_program
from any_values import listed
from brute import SMALL_GRIDS, all_places, rows_of
from dealtarrays.arrays import Array
from dealtarrays.grids import Dealing, Grid, dealings, places_of
from dealtarrays.makes import made_dealing, make_piece, may_deal, operand_dealing
from dealtarrays.pieces import cut_array, join_pieces
from dealtarrays.plain import run_plain
from dealtarrays.programs import Program, operands
from reference import as_known, step_made

I = (("i", 2),)
IK = (("i", 3), ("k", 2))
JK = (("j", 3), ("k", 2))
INPUTS = (("a", IK), ("b", JK), ("v", (("i", 3),)), ("n", ()))

# A step of each kind, its index names, and the side that it shifts or picks.
STEPS = [
    (("add", "a", "b"), "ijk", None), (("add", "a", "a"), "ik", None), (("add", "n", "v"), "i", None),
    (("sub", "v", "a"), "ik", None), (("sub", "b", "n"), "jk", None), (("mul", "a", "v"), "ik", None),
    (("mul", "a", "b"), "ijk", None), (("mul", "v", "v"), "i", None),
    (("mulsum", "a", "b", ("k",)), "ijk", None), (("mulsum", "a", "b", ("i", "j")), "ijk", None),
    (("mulsum", "b", "a", ("i", "j", "k")), "ijk", None), (("mulsum", "a", "a", ("i",)), "ik", None),
    (("mulsum", "a", "v", ()), "ik", None), (("mulsum", "n", "a", ("k",)), "ik", None),
    (("sum", "a", ("i",)), "ik", None), (("sum", "a", ("i", "k")), "ik", None), (("sum", "a", ()), "ik", None),
    (("sum", "n", ()), "", None), (("scale", "a", -3), "ik", None), (("scale", "n", 2), "", None),
    (("spread", "a", "j", 3), "ijk", None), (("spread", "n", "z", 2), "z", None),
    (("turn", "a", "i", "z"), "kz", None), (("turn", "a", "k", "h"), "hi", None), (("turn", "v", "i", "j"), "j", None),
    (("shift", "a", "i", 1), "ik", "i"), (("shift", "a", "k", -5), "ik", "k"), (("shift", "v", "i", 0), "i", "i"),
    (("pick", "a", "i", 2), "ik", "i"), (("pick", "a", "k", 0), "ik", "k"), (("pick", "v", "i", 1), "i", "i"),
    (("put", "a", "j", 3, 1), "ijk", None), (("put", "a", "h", 2, 0), "hik", None),
    (("put", "n", "z", 4, 3), "z", None),
]
PROGRAM = Program(INPUTS, tuple((f"s{at}", *rest) for at, (rest, _, _) in enumerate(STEPS)))
ROW = tuple((side, 1) for side in "hijkxz")


class TestMayDeal(unittest.TestCase):
    def test_each_kind_and_each_dealing(self):
        for grid in SMALL_GRIDS:
            known = dict(grid.directions)
            # Also with a direction and with sides that there are not.
            other = Grid((("q", 1), *grid.directions)) if len(known) < 3 else grid
            for dealing in dealings(ROW, other):
                for number, (_, names, whole) in enumerate(STEPS):
                    expected = dealing.parts == () and all(
                        side in names and side != whole and direction in known for side, _, direction in dealing.cuts)
                    self.assertIs(may_deal(PROGRAM, number, dealing, grid), expected, (STEPS[number], dealing.cuts))

    def test_index_names_told_here_are_those_of_the_rows(self):
        for number, (_, names, _) in enumerate(STEPS):
            self.assertEqual("".join(side for side, _ in index_sides(PROGRAM, number)), names)

    def test_parts(self):
        grid = Grid((("x", 2), ("y", 2)))
        for number in range(len(STEPS)):
            self.assertIs(may_deal(PROGRAM, number, Dealing((), ()), grid), True)
            for parts in [("x",), ("y",), ("x", "y"), ("z",)]:
                self.assertIs(may_deal(PROGRAM, number, Dealing((), parts), grid), False)

    def test_a_grid_without_the_direction(self):
        dealing = Dealing((("k", "turns", "y"),), ())
        self.assertIs(may_deal(PROGRAM, 0, dealing, Grid((("x", 2),))), False)
        self.assertIs(may_deal(PROGRAM, 0, dealing, Grid((("y", 2),))), True)
        self.assertIs(may_deal(grid=Grid((("y", 2),)), dealing=dealing, number=0, program=PROGRAM), True)

    def test_the_old_side_of_turn(self):
        program = Program((("a", IK),), (("t", "turn", "a", "i", "z"),))
        grid = Grid((("x", 2),))
        for side, expected in [("z", True), ("i", False), ("k", True), ("a", False)]:
            self.assertIs(may_deal(program, 0, Dealing(((side, "blocks", "x"),), ()), grid), expected)


class TestDealings(unittest.TestCase):
    def test_operand_dealing_of_each_kind(self):
        for grid in SMALL_GRIDS:
            for number, step in enumerate(PROGRAM.steps):
                for dealing in all_step_dealings(PROGRAM, number, grid):
                    for at, name in enumerate(operands(step)):
                        found = operand_dealing(PROGRAM, number, dealing, at)
                        self.assertIs(type(found), Dealing)
                        back = {step[4]: step[3]} if step[1] == "turn" else {}
                        cuts = [(back.get(side, side), kind, direction) for side, kind, direction in dealing.cuts]
                        own = dict(PROGRAM.sides_of(name))
                        self.assertEqual(found.cuts, tuple(sorted(cut for cut in cuts if cut[0] in own)))
                        self.assertEqual(found.parts, ())

    def test_known_operand_dealings(self):
        dealing = Dealing((("i", "blocks", "y"), ("j", "turns", "x"), ("k", "turns", "z")), ())
        i, j, k = dealing.cuts
        for at, cuts in enumerate([(i, k), (j, k)]):
            self.assertEqual(operand_dealing(PROGRAM, 8, dealing, at), Dealing(cuts, ()))
            self.assertEqual(operand_dealing(at=at, dealing=dealing, number=8, program=PROGRAM), Dealing(cuts, ()))
        steps = (("t", "turn", "a", "i", "z"), ("m", "mul", "a", "a"), ("h", "turn", "a", "k", "b"))
        program = Program((("a", IK),), steps)
        turned = Dealing((("i", "turns", "y"), ("k", "blocks", "x")), ())
        dealing = Dealing((("k", "blocks", "x"), ("z", "turns", "y")), ())
        self.assertEqual(operand_dealing(program, 0, dealing, 0), turned)
        dealing = Dealing((("b", "blocks", "x"), ("i", "turns", "y")), ())
        self.assertEqual(operand_dealing(program, 2, dealing, 0), turned)
        dealing = Dealing((("k", "blocks", "x"),), ())
        self.assertEqual([operand_dealing(program, 1, dealing, at) for at in (0, 1)], [dealing, dealing])

    def test_made_dealing_of_each_kind(self):
        for grid in SMALL_GRIDS:
            for number, step in enumerate(PROGRAM.steps):
                own = dict(PROGRAM.sides_of(step[0]))
                for dealing in all_step_dealings(PROGRAM, number, grid):
                    found = made_dealing(PROGRAM, number, dealing)
                    self.assertIs(type(found), Dealing)
                    self.assertEqual(found.cuts, tuple(cut for cut in dealing.cuts if cut[0] in own))
                    self.assertEqual(found.parts, tuple(sorted(cut[2] for cut in dealing.cuts if cut[0] not in own)))
                    if step[1] not in ("mulsum", "sum"):
                        self.assertEqual(found.parts, ())

    def test_known_made_dealings(self):
        dealing = Dealing((("i", "blocks", "y"), ("j", "turns", "x"), ("k", "turns", "a")), ())
        for names, cuts, parts in [
            ((), dealing.cuts, ()), (("k",), dealing.cuts[:2], ("a",)), (("i", "j"), dealing.cuts[2:], ("x", "y")),
            (("i", "j", "k"), (), ("a", "x", "y")), (("i", "k"), dealing.cuts[1:2], ("a", "y")),
        ]:
            program = Program(INPUTS, (("s", "mulsum", "a", "b", names),))
            self.assertEqual(made_dealing(program, 0, dealing), Dealing(cuts, parts))
            self.assertEqual(made_dealing(dealing=dealing, number=0, program=program), Dealing(cuts, parts))

    def test_dealings_are_not_changed(self):
        dealing = Dealing([["k", "blocks", "x"], ["z", "turns", "y"]], [])
        program = Program((("a", IK),), (("t", "turn", "a", "i", "z"),))
        for _ in range(2):
            operand_dealing(program, 0, dealing, 0)
            made_dealing(program, 0, dealing)
            may_deal(program, 0, dealing, Grid((("x", 2), ("y", 2))))
            self.assertEqual(dealing, Dealing((("k", "blocks", "x"), ("z", "turns", "y")), ()))


def terms_of(step, arrays):
    """What a step makes ahead of its sums, by places of all index names, with their sides."""
    known = {name: as_known(array.sides, array.cells) for name, array in arrays.items()}
    if step[1] == "mulsum":
        step = ("s", "mul", step[2], step[3])
    elif step[1] == "sum":
        step = ("s", "scale", step[2], 1)
    return step_made(step, known)


class TestMakePiece(unittest.TestCase):
    def check(self, program, number, grid, arrays):
        """Each machine's piece by each step dealing, and all of them joined."""
        step = program.steps[number]
        used = [arrays[name] for name in operands(step)]
        for dealing in all_step_dealings(program, number, grid):
            given = [cut_array(array, operand_dealing(program, number, dealing, at), grid)
                     for at, array in enumerate(used)]
            pieces = [make_piece(program, number, dealing, grid, machine, [pieces[machine] for pieces in given])
                      for machine in range(grid.many)]
            for machine, piece in enumerate(pieces):
                self.check_piece(program, number, dealing, grid, machine, piece, arrays)
            made = made_dealing(program, number, dealing)
            self.assertEqual(join_pieces(pieces, program.sides_of(step[0]), made, grid), arrays[step[0]])

    def check_piece(self, program, number, dealing, grid, machine, piece, arrays):
        step = program.steps[number]
        made = program.sides_of(step[0])
        rows = places_of(made_dealing(program, number, dealing), made, grid, machine)
        sides = index_sides(program, number)
        own = dict(zip([side for side, _ in sides], rows_of(dealing, sides, grid, machine)))
        gone = sorted(own.keys() - dict(made).keys()) if step[1] in ("mulsum", "sum") else []
        _, terms = terms_of(step, arrays)
        cells = []
        for place in all_places(rows):
            names = list(zip([side for side, _ in made], place))
            cells.append(sum(terms[tuple(sorted(names + list(zip(gone, more))))]
                             for more in itertools.product(*(own[side] for side in gone))))
        self.assertEqual(piece, (rows, tuple(cells)), (step, dealing.cuts, machine))

    def test_each_kind_each_dealing_each_machine(self):
        arrays = any_arrays(1, PROGRAM)
        made = dict(zip(PROGRAM.names(), run_plain(PROGRAM, arrays)))
        for grid in SMALL_GRIDS + [Grid((("x", 4),))]:
            for number in range(len(STEPS)):
                self.check(PROGRAM, number, grid, made)

    def test_steps_of_all_kinds(self):
        for number in range(30):
            program = any_program(number, 3, 4, most_cells=40, most_sides=3)
            made = dict(zip(program.names(), run_plain(program, any_arrays(number, program))))
            for at in range(len(program.steps)):
                self.check(program, at, SMALL_GRIDS[number % 3], made)

    def test_three_directions(self):
        grid = Grid((("x", 2), ("y", 2), ("z", 2)))
        made = dict(zip(PROGRAM.names(), run_plain(PROGRAM, any_arrays(2, PROGRAM))))
        for number in (8, 10):
            self.check(PROGRAM, number, grid, made)

    def test_a_sum_over_cut_sides(self):
        program = Program((("a", IK),), (("s", "sum", "a", ("i",)),))
        grid, dealing = Grid((("x", 2),)), Dealing((("i", "turns", "x"),), ())
        pieces = cut_array(Array(IK, (1, 2, 3, 4, 5, 6)), operand_dealing(program, 0, dealing, 0), grid)
        found = [make_piece(program, 0, dealing, grid, machine, (pieces[machine],)) for machine in range(2)]
        self.assertEqual(found, [(((0, 1),), (6, 8)), (((0, 1),), (3, 4))])
        # A machine without any place of the side has sums of nothing.
        grid, dealing = Grid((("x", 4),)), Dealing((("i", "blocks", "x"),), ())
        pieces = cut_array(Array(IK, (1, 2, 3, 4, 5, 6)), operand_dealing(program, 0, dealing, 0), grid)
        found = [make_piece(program, 0, dealing, grid, machine, [pieces[machine]]) for machine in range(4)]
        self.assertEqual([cells for _, cells in found], [(1, 2), (3, 4), (5, 6), (0, 0)])

    def test_a_product_with_more_sides_than_an_array(self):
        four, other = tuple((side, 2) for side in "abcd"), tuple((side, 2) for side in "efgh")
        program = Program((("p", four), ("q", other)), (("r", "mulsum", "p", "q", ("a", "b", "g", "h")),))
        made = dict(zip(program.names(), run_plain(program, any_arrays(0, program))))
        grid = Grid((("x", 2),))
        self.assertEqual(len(all_step_dealings(program, 0, grid)), 17)
        self.check(program, 0, grid, made)

    def test_pieces_as_lists_and_arguments_by_name(self):
        program = Program(listed(INPUTS), [["s", "mulsum", "a", "b", ["k"]]])
        arrays = any_arrays(4, program)
        grid, dealing = Grid((("x", 2),)), Dealing((("k", "turns", "x"),), ())
        given = [cut_array(arrays[at], operand_dealing(program, 0, dealing, at), grid) for at in (0, 1)]
        for machine in range(2):
            pieces = [given[0][machine], given[1][machine]]
            found = make_piece(program, 0, dealing, grid, machine, pieces)
            self.assertEqual(pieces, [given[0][machine], given[1][machine]])
            named = {"pieces": tuple(pieces), "machine": machine, "grid": grid, "dealing": dealing, "number": 0}
            self.assertEqual(make_piece(program=program, **named), found)
            self.assertIs(type(found), tuple)
            self.assertIs(type(found[1]), tuple)


if __name__ == "__main__":
    unittest.main()
