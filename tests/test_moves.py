"""Point [19]: moves to another grid."""

import unittest

from any_values import listed
from brute import (
    GRIDS, array_mixed, joined, letters, parts_mixed, pieces_after, rows_of, wants_exchanged, wants_moved, whole,
)
from dealtarrays.arrays import Array
from dealtarrays.exchanges import letters_of, numbers_sent
from dealtarrays.grids import Dealing, Grid, dealings
from dealtarrays.moves import letters_moved, moved, numbers_moved
from dealtarrays.pieces import cut_array, join_pieces

I4 = (("i", 4),)
ONE = Grid((("x", 1),))
TWO = Grid((("x", 2),))
THREE = Grid((("y", 3),))
FOUR = Grid((("x", 4),))
SQUARE = Grid((("x", 2), ("y", 2)))
BLOCKS = Dealing((("i", "blocks", "x"),), ())
TURNS = Dealing((("i", "turns", "x"),), ())
PARTS = Dealing((), ("x",))

# Larger and smaller ones and such of as many machines, with directions of the same and of other names.
WAYS = [
    (TWO, FOUR), (FOUR, TWO), (TWO, TWO), (FOUR, SQUARE), (SQUARE, FOUR), (THREE, TWO), (TWO, THREE), (ONE, SQUARE),
    (SQUARE, ONE), (SQUARE, Grid((("a", 2), ("y", 2)))), (GRIDS[5], SQUARE), (THREE, GRIDS[6]), (GRIDS[6], THREE),
]


class MoveCase(unittest.TestCase):
    def check(self, sides, dealing, grid, other, target):
        found = wants_moved(sides, dealing, grid, other, target)
        expected = letters(found)
        self.assertEqual(letters_moved(sides, dealing, grid, other, target), expected, (dealing.cuts, other.cuts))
        many = numbers_moved(sides, dealing, grid, other, target)
        self.assertEqual(many, sum(len(wants) for _, _, wants in expected))
        pieces = parts_mixed(sides, dealing, grid)
        after = moved(pieces, sides, dealing, grid, other, target)
        self.assertEqual(after, pieces_after(pieces, sides, other, target, found))
        self.assertEqual(join_pieces(after, sides, other, target), joined(pieces, sides, dealing, grid))


def without_parts(sides, grid):
    return [dealing for dealing in dealings(sides, grid) if dealing.parts == ()]


class TestMoves(MoveCase):
    def test_all_ways_of_a_row(self):
        for grid, target in WAYS:
            for sides in ((), (("i", 5),)):
                for dealing in dealings(sides, grid):
                    for other in without_parts(sides, target):
                        self.check(sides, dealing, grid, other, target)

    def test_many_ways_of_other_arrays(self):
        count = 0
        for grid, target in WAYS:
            for sides in ((("i", 3), ("k", 2)), (("i", 2), ("j", 2), ("k", 2))):
                for dealing in dealings(sides, grid):
                    for other in without_parts(sides, target):
                        count += 1
                        if count % 29 == 0:
                            self.check(sides, dealing, grid, other, target)

    def test_what_was_cut_is_the_same_array(self):
        sides = (("i", 5), ("k", 3))
        array = array_mixed(sides)
        for grid, target in WAYS:
            for at, dealing in enumerate(dealings(sides, grid)):
                pieces = cut_array(array, dealing, grid)
                for other in without_parts(sides, target)[at % 3::3]:
                    after = moved(pieces, sides, dealing, grid, other, target)
                    self.assertEqual(join_pieces(after, sides, other, target), array)

    def test_to_the_same_grid_as_an_exchange(self):
        for grid in GRIDS[:5]:
            for dealing in dealings((("i", 3),), grid):
                for other in without_parts((("i", 3),), grid):
                    self.assertEqual(letters_moved((("i", 3),), dealing, grid, other, grid),
                                     letters_of((("i", 3),), dealing, other, grid))
                    self.assertEqual(numbers_moved((("i", 3),), dealing, grid, other, grid),
                                     numbers_sent((("i", 3),), dealing, other, grid))
                    self.assertEqual(letters(wants_exchanged((("i", 3),), dealing, other, grid)),
                                     letters_moved((("i", 3),), dealing, grid, other, grid))


class TestKnownMoves(MoveCase):
    def test_to_a_larger_grid(self):
        self.assertEqual(letters_moved(I4, BLOCKS, TWO, BLOCKS, FOUR),
                         ((0, 1, (((1,), ()),)), (1, 2, (((2,), ()),)), (1, 3, (((3,), ()),))))
        self.assertEqual(numbers_moved(I4, BLOCKS, TWO, BLOCKS, FOUR), 3)
        array = Array(I4, (5, 6, 7, 8))
        self.assertEqual(moved(cut_array(array, BLOCKS, TWO), I4, BLOCKS, TWO, BLOCKS, FOUR),
                         ((((0,),), (5,)), (((1,),), (6,)), (((2,),), (7,)), (((3,),), (8,))))
        # Machine 1 has all itself, and those that are new take all from the lowest.
        self.assertEqual([letter[:2] for letter in letters_moved(I4, whole(), TWO, whole(), FOUR)], [(0, 2), (0, 3)])

    def test_to_a_smaller_grid(self):
        self.assertEqual(letters_moved(I4, BLOCKS, FOUR, TURNS, TWO),
                         ((2, 0, (((2,), ()),)), (3, 1, (((3,), ()),))))
        self.assertEqual(letters_moved(I4, TURNS, FOUR, whole(), ONE),
                         ((1, 0, (((1,), ()),)), (2, 0, (((2,), ()),)), (3, 0, (((3,), ()),))))
        self.assertEqual(letters_moved(I4, whole(), FOUR, BLOCKS, TWO), ())

    def test_machine_m_is_machine_m(self):
        # Machine 1 of the row stands at (0, 1) of the square, machine 2 at (1, 0).
        self.assertEqual(letters_moved(I4, BLOCKS, FOUR, Dealing((("i", "blocks", "y"),), ()), SQUARE), (
            (0, 2, (((0,), ()),)), (1, 0, (((1,), ()),)), (1, 2, (((1,), ()),)), (2, 1, (((2,), ()),)),
            (2, 3, (((2,), ()),)), (3, 1, (((3,), ()),)),
        ))

    def test_out_of_parts(self):
        rows = ((0, 1, 2, 3),)
        pieces = ((rows, (1, 2, 3, 4)), (rows, (10, 20, 30, 40)))
        after = moved(pieces, I4, PARTS, TWO, Dealing((("i", "blocks", "y"),), ()), THREE)
        self.assertEqual(after, ((((0, 1),), (11, 22)), (((2, 3),), (33, 44)), (((),), ())))
        self.assertEqual(letters_moved(I4, PARTS, TWO, Dealing((("i", "blocks", "y"),), ()), THREE),
                         ((0, 1, (((2,), (0,)), ((3,), (0,)))), (1, 0, (((0,), (1,)), ((1,), (1,))))))
        self.assertEqual(moved(pieces, I4, PARTS, TWO, whole(), ONE), ((rows, (11, 22, 33, 44)),))
        self.assertEqual(moved(pieces, I4, PARTS, TWO, whole(), FOUR), ((rows, (11, 22, 33, 44)),) * 4)
        self.assertEqual(numbers_moved(I4, PARTS, TWO, whole(), FOUR), 4 + 4 + 8 + 8)

    def test_out_of_parts_along_a_direction_that_both_grids_have(self):
        rows = ((0, 1, 2, 3),)
        pieces = tuple((rows, (10 ** at,) * 4) for at in range(4))
        both = Dealing((), ("x", "y"))
        self.assertEqual(moved(pieces, I4, both, SQUARE, whole(), TWO), ((rows, (1111,) * 4),) * 2)
        self.assertEqual(moved(pieces, I4, both, SQUARE, TURNS, SQUARE),
                         ((((0, 2),), (1111,) * 2),) * 2 + ((((1, 3),), (1111,) * 2),) * 2)
        wants = letters_moved(I4, both, SQUARE, whole(), TWO)
        self.assertEqual([letter[:2] for letter in wants], [(0, 1), (1, 0), (2, 0), (2, 1), (3, 0), (3, 1)])
        self.assertEqual(wants[4][2], tuple(((place,), (1, 1)) for place in range(4)))

    def test_machines_of_target_without_any_place(self):
        after = moved(cut_array(array_mixed((("i", 2),)), whole(), ONE), (("i", 2),), whole(), ONE, BLOCKS, FOUR)
        for machine, (rows, _) in enumerate(after):
            self.assertEqual(rows, rows_of(BLOCKS, (("i", 2),), FOUR, machine))
        self.assertEqual(after[2:], ((((),), ()), (((),), ())))

    def test_an_array_without_sides(self):
        self.assertEqual(letters_moved((), PARTS, TWO, whole(), THREE), (
            (0, 1, (((), (0,)),)), (0, 2, (((), (0,)),)), (1, 0, (((), (1,)),)), (1, 2, (((), (1,)),)),
        ))
        self.assertEqual(moved((((), (3,)), ((), (4,))), (), PARTS, TWO, whole(), THREE), (((), (7,)),) * 3)


class TestArguments(unittest.TestCase):
    SIDES = (("i", 3), ("k", 2))
    FIRST = Dealing((("k", "turns", "y"),), ("x",))
    SECOND = Dealing((("i", "blocks", "y"),), ())

    def test_lists_names_and_asked_twice(self):
        pieces = parts_mixed(self.SIDES, self.FIRST, SQUARE)
        expected = letters_moved(self.SIDES, self.FIRST, SQUARE, self.SECOND, THREE)
        after = moved(pieces, self.SIDES, self.FIRST, SQUARE, self.SECOND, THREE)
        self.assertTrue(expected)
        for sides in (self.SIDES, listed(self.SIDES), tuple(listed(self.SIDES)), list(self.SIDES)):
            before = listed(sides)
            for _ in range(2):
                named = {"target": THREE, "other": self.SECOND, "grid": SQUARE, "dealing": self.FIRST, "sides": sides}
                self.assertEqual(letters_moved(**named), expected)
                self.assertEqual(numbers_moved(**named), sum(len(wants) for _, _, wants in expected))
                self.assertEqual(moved(pieces=list(pieces), **named), after)
            self.assertEqual(listed(sides), before)

    def test_arguments_are_not_changed(self):
        pieces = list(parts_mixed(self.SIDES, self.FIRST, SQUARE))
        before = list(pieces)
        after = moved(pieces, self.SIDES, self.FIRST, SQUARE, self.SECOND, THREE)
        self.assertEqual(pieces, before)
        self.assertEqual((self.FIRST.cuts, self.FIRST.parts), ((("k", "turns", "y"),), ("x",)))
        self.assertEqual((SQUARE.directions, THREE.directions), ((("x", 2), ("y", 2)), (("y", 3),)))
        pieces.clear()
        self.assertEqual(len(after), 3)

    def test_kinds_of_values(self):
        found = letters_moved(self.SIDES, self.FIRST, SQUARE, self.SECOND, THREE)
        self.assertIs(type(found), tuple)
        for letter in found:
            self.assertEqual([type(part) for part in letter], [int, int, tuple])
            for want in letter[2]:
                self.assertEqual([type(part) for part in want], [tuple, tuple])
        self.assertEqual(list(found), sorted(found))
        self.assertIs(type(moved(parts_mixed(self.SIDES, self.FIRST, SQUARE), self.SIDES, self.FIRST, SQUARE,
                                 self.SECOND, THREE)), tuple)


if __name__ == "__main__":
    unittest.main()
