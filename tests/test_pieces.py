"""Point [14]: arrays cut in pieces, and joined again."""

import unittest

from any_values import listed
from brute import GRIDS, SIDES, all_places, along, array_mixed, joined, parts_mixed, rows_of, whole
from dealtarrays.arrays import Array
from dealtarrays.errors import DealError, Quarrel
from dealtarrays.grids import Dealing, Grid, dealings, places_of
from dealtarrays.pieces import cut_array, join_pieces

IK = (("i", 3), ("k", 2))
A = Array(IK, (1, 2, 3, 4, 5, 6))
TWO = Grid((("x", 2),))
FOUR = Grid((("x", 2), ("y", 2)))


class TestCut(unittest.TestCase):
    def test_whole(self):
        piece = (((0, 1, 2), (0, 1)), (1, 2, 3, 4, 5, 6))
        self.assertEqual(cut_array(A, whole(), TWO), (piece, piece))

    def test_blocks_and_turns_that_do_not_divide_evenly(self):
        self.assertEqual(cut_array(A, Dealing((("i", "blocks", "x"),), ()), TWO),
                         ((((0, 1), (0, 1)), (1, 2, 3, 4)), (((2,), (0, 1)), (5, 6))))
        self.assertEqual(cut_array(A, Dealing((("i", "turns", "x"),), ()), TWO),
                         ((((0, 2), (0, 1)), (1, 2, 5, 6)), (((1,), (0, 1)), (3, 4))))
        self.assertEqual(cut_array(A, Dealing((("k", "turns", "x"),), ()), TWO),
                         ((((0, 1, 2), (0,)), (1, 3, 5)), (((0, 1, 2), (1,)), (2, 4, 6))))

    def test_machines_without_any_place(self):
        self.assertEqual(cut_array(A, Dealing((("k", "blocks", "x"),), ()), Grid((("x", 4),)))[2:],
                         ((((0, 1, 2), ()), ()), (((0, 1, 2), ()), ())))
        self.assertEqual(cut_array(A, Dealing((("i", "blocks", "x"),), ()), Grid((("x", 4),)))[1:],
                         ((((1,), (0, 1)), (3, 4)), (((2,), (0, 1)), (5, 6)), (((), (0, 1)), ())))

    def test_zeros_beside_the_first_along_directions_in_parts(self):
        rows, zeros = ((0, 1, 2), (0, 1)), (0,) * 6
        for parts, firsts in [(("x",), (0, 1)), (("y",), (0, 2)), (("x", "y"), (0,))]:
            expected = tuple((rows, A.cells if machine in firsts else zeros) for machine in range(4))
            self.assertEqual(cut_array(A, Dealing((), parts), FOUR), expected)
        self.assertEqual(cut_array(A, Dealing((("i", "blocks", "y"),), ("x",)), FOUR), (
            (((0, 1), (0, 1)), (1, 2, 3, 4)), (((2,), (0, 1)), (5, 6)),
            (((0, 1), (0, 1)), (0, 0, 0, 0)), (((2,), (0, 1)), (0, 0)),
        ))

    def test_directions_that_nothing_uses(self):
        first, second = cut_array(A, Dealing((("i", "blocks", "x"),), ()), TWO)
        self.assertEqual(cut_array(A, Dealing((("i", "blocks", "x"),), ()), FOUR), (first, first, second, second))
        self.assertEqual(cut_array(A, Dealing((("i", "blocks", "y"),), ()), FOUR), (
            (((0, 1), (0, 1)), (1, 2, 3, 4)), (((2,), (0, 1)), (5, 6)),
        ) * 2)

    def test_an_array_without_sides(self):
        array = Array((), (7,))
        self.assertEqual(cut_array(array, whole(), TWO), (((), (7,)), ((), (7,))))
        self.assertEqual(cut_array(array, Dealing((), ("x",)), TWO), (((), (7,)), ((), (0,))))

    def test_each_machine_of_each_dealing(self):
        for grid in GRIDS:
            for sides in SIDES:
                array = array_mixed(sides)
                for dealing in dealings(sides, grid):
                    pieces = cut_array(array=array, dealing=dealing, grid=grid)
                    self.assertIs(type(pieces), tuple)
                    self.assertEqual(len(pieces), grid.many)
                    for machine, piece in enumerate(pieces):
                        rows = rows_of(dealing, sides, grid, machine)
                        self.assertEqual(rows, places_of(dealing, sides, grid, machine))
                        first = not any(along(grid, machine)[direction] for direction in dealing.parts)
                        cells = tuple(array.cell(place) if first else 0 for place in all_places(rows))
                        self.assertEqual(piece, (rows, cells))


class TestJoin(unittest.TestCase):
    def test_what_was_cut(self):
        for grid in GRIDS:
            for sides in SIDES:
                array = array_mixed(sides)
                for dealing in dealings(sides, grid):
                    pieces = cut_array(array, dealing, grid)
                    self.assertEqual(join_pieces(pieces, sides, dealing, grid), array)
                    self.assertEqual(join_pieces(list(pieces), listed(sides), dealing, grid), array)
                    self.assertEqual(join_pieces(grid=grid, dealing=dealing, sides=sides, pieces=pieces), array)

    def test_sums_along_the_directions_in_parts(self):
        rows = ((0, 1, 2), (0, 1))
        pieces = ((rows, (1, 2, 3, 4, 5, 6)), (rows, (10, 20, 30, 40, 50, 60)))
        self.assertEqual(join_pieces(pieces, IK, Dealing((), ("x",)), TWO).cells, (11, 22, 33, 44, 55, 66))
        pieces = tuple((((0, 1), (0, 1)) if at % 2 == 0 else ((2,), (0, 1)), (10 ** at,) * (4 if at % 2 == 0 else 2))
                       for at in range(4))
        dealing = Dealing((("i", "blocks", "y"),), ("x",))
        self.assertEqual(join_pieces(pieces, IK, dealing, FOUR).cells, (101, 101, 101, 101, 1010, 1010))
        pieces = tuple(((), (10 ** at,)) for at in range(4))
        self.assertEqual(join_pieces(pieces, (), Dealing((), ("x", "y")), FOUR).cells, (1111,))

    def test_unlike_parts_of_each_dealing(self):
        for grid in GRIDS:
            for sides in SIDES:
                for dealing in dealings(sides, grid):
                    pieces = parts_mixed(sides, dealing, grid)
                    self.assertEqual(join_pieces(pieces, sides, dealing, grid), joined(pieces, sides, dealing, grid))

    def test_arguments_are_not_changed(self):
        dealing, sides = Dealing((("i", "turns", "x"),), ("y",)), listed(IK)
        pieces = list(cut_array(A, dealing, FOUR))
        before = list(pieces)
        array = join_pieces(pieces, sides, dealing, FOUR)
        self.assertEqual((pieces, sides), (before, listed(IK)))
        self.assertEqual(join_pieces(pieces, sides, dealing, FOUR), array)
        pieces.clear()
        sides.clear()
        self.assertEqual(array, A)
        self.assertEqual(A.cells, (1, 2, 3, 4, 5, 6))


class TestQuarrel(unittest.TestCase):
    def check_quarrel(self, pieces, sides, dealing, grid, machine):
        with self.assertRaises(Quarrel) as caught:
            join_pieces(pieces, sides, dealing, grid)
        self.assertIs(type(caught.exception.machine), int)
        self.assertEqual(caught.exception.machine, machine)
        self.assertIsInstance(caught.exception, DealError)

    def test_two_machines(self):
        pieces = cut_array(A, whole(), TWO)
        for at in range(6):
            rows, cells = pieces[1]
            spoilt = (rows, cells[:at] + (cells[at] + 1,) + cells[at + 1:])
            self.check_quarrel((pieces[0], spoilt), IK, whole(), TWO, 1)
            self.check_quarrel([spoilt, pieces[1]], IK, whole(), TWO, 1)

    def test_the_lowest_that_is_unlike_a_lower_one(self):
        # Whichever machines are spoilt, the first that is unlike the first of its kind is the one.
        for grid in GRIDS:
            for dealing in dealings((("i", 5),), grid):
                pieces = parts_mixed((("i", 5),), dealing, grid)
                for first in range(grid.many):
                    for second in range(first, grid.many):
                        spoilt = [self.spoil(piece) if machine in (first, second) else piece
                                  for machine, piece in enumerate(pieces)]
                        self.check_as_worded(spoilt, (("i", 5),), dealing, grid)

    def spoil(self, piece):
        return piece[0], tuple(cell + 1000 for cell in piece[1])

    def check_as_worded(self, pieces, sides, dealing, grid):
        used = {direction for _, _, direction in dealing.cuts} | set(dealing.parts)
        for machine in range(grid.many):
            for lower in range(machine):
                one, other = along(grid, machine), along(grid, lower)
                if all(one[direction] == other[direction] for direction in used) and pieces[machine] != pieces[lower]:
                    self.check_quarrel(pieces, sides, dealing, grid, machine)
                    return
        self.assertEqual(join_pieces(pieces, sides, dealing, grid), joined(pieces, sides, dealing, grid))

    def test_none_where_pieces_differ_along_cuts_or_parts(self):
        rows = ((0, 1, 2), (0, 1))
        pieces = ((rows, (1,) * 6), (rows, (2,) * 6))
        self.assertEqual(join_pieces(pieces, IK, Dealing((), ("x",)), TWO).cells, (3,) * 6)
        cut = Dealing((("i", "turns", "x"),), ())
        pieces = ((((0, 2), (0, 1)), (1,) * 4), (((1,), (0, 1)), (2,) * 2))
        self.assertEqual(join_pieces(pieces, IK, cut, TWO).cells, (1, 1, 2, 2, 1, 1))

    def test_along_a_direction_beside_cuts_and_parts(self):
        dealing = Dealing((("i", "blocks", "x"),), ())
        pieces = list(cut_array(A, dealing, FOUR))
        for machine, expected in [(0, 1), (1, 1), (2, 3), (3, 3)]:
            spoilt = [self.spoil(piece) if at == machine else piece for at, piece in enumerate(pieces)]
            self.check_quarrel(spoilt, IK, dealing, FOUR, expected)
        self.check_quarrel([pieces[0], pieces[1], pieces[2], pieces[0]], IK, dealing, FOUR, 3)


if __name__ == "__main__":
    unittest.main()
