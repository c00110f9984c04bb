"""Points [17] and [18]: exchanges between the machines of a grid."""

import unittest

from any_values import listed
from brute import (
    GRIDS, SIDES, along, array_mixed, joined, letters, parts_mixed, pieces_after, rows_of, wants_exchanged, whole,
)
from dealtarrays.arrays import Array
from dealtarrays.exchanges import exchanged, letters_of, numbers_sent
from dealtarrays.grids import Dealing, Grid, dealings
from dealtarrays.pieces import cut_array, join_pieces

I2 = (("i", 2),)
ONE = Grid((("x", 2),))
FOUR = Grid((("x", 2), ("y", 2)))
BLOCKS = Dealing((("i", "blocks", "x"),), ())
PARTS = Dealing((), ("x",))


class ExchangeCase(unittest.TestCase):
    def check(self, sides, dealing, other, grid):
        """Letters, numbers and pieces against those found by trying all machines."""
        found = wants_exchanged(sides, dealing, other, grid)
        expected = letters(found)
        self.assertEqual(letters_of(sides, dealing, other, grid), expected, (dealing.cuts, dealing.parts))
        self.assertEqual(numbers_sent(sides, dealing, other, grid), sum(len(wants) for _, _, wants in expected))
        pieces = parts_mixed(sides, dealing, grid)
        after = exchanged(pieces, sides, dealing, other, grid)
        self.assertEqual(after, pieces_after(pieces, sides, other, grid, found))
        self.assertEqual(join_pieces(after, sides, other, grid), joined(pieces, sides, dealing, grid))


class TestExchanges(ExchangeCase):
    def test_all_ways_between_dealings_of_small_arrays(self):
        for grid in GRIDS[:5]:
            for sides in ((), (("i", 3),)):
                for dealing in dealings(sides, grid):
                    for other in dealings(sides, grid):
                        self.check(sides, dealing, other, grid)

    def test_many_ways_between_dealings_of_other_arrays(self):
        count = 0
        for grid in GRIDS:
            for sides in SIDES + [(("i", 5), ("k", 2))]:
                for dealing in dealings(sides, grid):
                    for other in dealings(sides, grid):
                        count += 1
                        if count % 37 == 0:
                            self.check(sides, dealing, other, grid)

    def test_what_was_cut_is_the_same_array(self):
        for grid in GRIDS[1:6]:
            sides = (("i", 5), ("k", 3))
            array = array_mixed(sides)
            for at, dealing in enumerate(dealings(sides, grid)):
                pieces = cut_array(array, dealing, grid)
                for other in dealings(sides, grid)[at % 5::5]:
                    after = exchanged(pieces, sides, dealing, other, grid)
                    self.assertEqual(join_pieces(after, sides, other, grid), array)

    def test_to_itself(self):
        # With all its own cells at hand nobody wants anything, and the parts stay what they are.
        for grid in GRIDS:
            for dealing in dealings((("i", 5),), grid):
                self.assertEqual(letters_of((("i", 5),), dealing, dealing, grid), ())
                self.assertEqual(numbers_sent((("i", 5),), dealing, dealing, grid), 0)
                pieces = parts_mixed((("i", 5),), dealing, grid)
                self.assertEqual(exchanged(pieces, (("i", 5),), dealing, dealing, grid), pieces)


class TestKnownLetters(ExchangeCase):
    def test_the_example_of_the_overview(self):
        self.assertEqual(numbers_sent((("i", 2), ("j", 2)), PARTS, BLOCKS, ONE), 4)
        self.assertEqual(letters_of((("i", 2), ("j", 2)), PARTS, BLOCKS, ONE), (
            (0, 1, (((1, 0), (0,)), ((1, 1), (0,)))),
            (1, 0, (((0, 0), (1,)), ((0, 1), (1,)))),
        ))

    def test_whole_from_blocks(self):
        self.assertEqual(letters_of(I2, BLOCKS, whole(), ONE), ((0, 1, (((0,), ()),)), (1, 0, (((1,), ()),))))

    def test_blocks_from_turns(self):
        turns = Dealing((("i", "turns", "x"),), ())
        self.assertEqual(letters_of((("i", 4),), turns, BLOCKS, ONE), ((0, 1, (((2,), ()),)), (1, 0, (((1,), ()),))))
        self.assertEqual(letters_of((("i", 4),), BLOCKS, turns, ONE), ((0, 1, (((1,), ()),)), (1, 0, (((2,), ()),))))

    def test_whole_from_parts(self):
        letter = (((0,), (0,)), ((1,), (0,)))
        other = (((0,), (1,)), ((1,), (1,)))
        self.assertEqual(letters_of(I2, PARTS, whole(), ONE), ((0, 1, letter), (1, 0, other)))
        rows = ((0, 1),)
        pieces = ((rows, (1, 2)), (rows, (30, 40)))
        self.assertEqual(exchanged(pieces, I2, PARTS, whole(), ONE), ((rows, (31, 42)), (rows, (31, 42))))

    def test_into_parts(self):
        rows = ((0, 1),)
        pieces = cut_array(Array(I2, (5, 6)), BLOCKS, ONE)
        self.assertEqual(exchanged(pieces, I2, BLOCKS, PARTS, ONE), ((rows, (5, 6)), (rows, (0, 0))))
        self.assertEqual(letters_of(I2, BLOCKS, PARTS, ONE), ((1, 0, (((1,), ()),)),))
        self.assertEqual(letters_of(I2, whole(), PARTS, ONE), ())

    def test_out_of_parts_along_one_of_two_directions(self):
        rows = ((0, 1),)
        both, one = Dealing((), ("x", "y")), Dealing((), ("y",))
        pieces = tuple((rows, (10 ** at, 2 * 10 ** at)) for at in range(4))
        # Machines 0 and 1 stand at x 0, machines 0 and 2 at y 0.
        self.assertEqual(exchanged(pieces, I2, both, one, FOUR),
                         ((rows, (101, 202)), (rows, (1010, 2020)), (rows, (101, 202)), (rows, (1010, 2020))))
        self.assertEqual([(source, to) for source, to, _ in letters_of(I2, both, one, FOUR)],
                         [(0, 2), (1, 3), (2, 0), (3, 1)])
        self.assertEqual(exchanged(pieces, I2, both, whole(), FOUR), ((rows, (1111, 2222)),) * 4)
        self.assertEqual(numbers_sent(I2, both, whole(), FOUR), 4 * 2 * 3)

    def test_from_one_part_to_another(self):
        rows = ((0, 1),)
        from_x, to_y = Dealing((), ("x",)), Dealing((), ("y",))
        pieces = ((rows, (1, 2)), (rows, (1, 2)), (rows, (30, 40)), (rows, (30, 40)))
        self.assertEqual(exchanged(pieces, I2, from_x, to_y, FOUR),
                         ((rows, (31, 42)), (rows, (0, 0)), (rows, (31, 42)), (rows, (0, 0))))
        self.assertEqual([(source, to) for source, to, _ in letters_of(I2, from_x, to_y, FOUR)], [(0, 2), (2, 0)])

    def test_from_itself_ahead_of_lower_ones_and_from_the_lowest_else(self):
        # Along y nothing is dealt: each machine has what the lower one beside it has.
        self.assertEqual([(source, to) for source, to, _ in letters_of(I2, BLOCKS, whole(), FOUR)],
                         [(0, 2), (0, 3), (2, 0), (2, 1)])
        self.assertEqual(letters_of(I2, whole(), BLOCKS, FOUR), ())

    def test_wants_ascending_by_place_and_combination(self):
        grid = Grid((("x", 2), ("y", 2)))
        found = letters_of(I2, Dealing((), ("x", "y")), Dealing((), ()), grid)
        self.assertEqual([(source, to) for source, to, _ in found],
                         [(source, to) for source in range(4) for to in range(4) if source != to])
        self.assertEqual(found[0], (0, 1, (((0,), (0, 0)), ((1,), (0, 0)))))
        self.assertEqual(found[-1], (3, 2, (((0,), (1, 1)), ((1,), (1, 1)))))
        for _, _, wants in letters_of((("i", 4), ("k", 3)), Dealing((("i", "turns", "x"),), ("y",)), whole(), grid):
            self.assertEqual(list(wants), sorted(wants))

    def test_parts_along_a_direction_of_size_1(self):
        grid = Grid((("x", 1), ("y", 2)))
        found = letters_of(I2, Dealing((), ("x", "y")), whole(), grid)
        self.assertEqual(found, ((0, 1, (((0,), (0, 0)), ((1,), (0, 0)))), (1, 0, (((0,), (0, 1)), ((1,), (0, 1))))))

    def test_an_array_without_sides(self):
        self.assertEqual(letters_of((), PARTS, whole(), ONE), ((0, 1, (((), (0,)),)), (1, 0, (((), (1,)),))))
        self.assertEqual(exchanged((((), (3,)), ((), (4,))), (), PARTS, whole(), ONE), (((), (7,)), ((), (7,))))


class TestCounts(unittest.TestCase):
    """Point [18]."""

    def check_counts(self, sides, side, size):
        grid = Grid((("x", size),))
        cells = 1
        for _, length in sides:
            cells *= length
        for kind in ("blocks", "turns"):
            cut = Dealing(((side, kind, "x"),), ())
            self.assertEqual(numbers_sent(sides, cut, whole(), grid), cells * (size - 1))
            self.assertEqual(numbers_sent(sides, PARTS, cut, grid), cells * (size - 1))
            self.assertEqual(numbers_sent(sides, whole(), cut, grid), 0)
        self.assertEqual(numbers_sent(sides, PARTS, whole(), grid), cells * size * (size - 1))

    def test_each_size_of_the_grid(self):
        for size in range(1, 5):
            for length in range(size, 7, size):
                self.check_counts((("i", length),), "i", size)
                self.check_counts((("h", 3), ("i", length)), "i", size)
                self.check_counts((("i", length), ("k", 5)), "i", size)
                self.check_counts((("a", 2), ("i", length), ("k", 3)), "i", size)

    def test_the_same_by_the_letters(self):
        for size in range(1, 5):
            grid, sides = Grid((("x", size),)), (("i", size), ("k", 2))
            blocks, many = Dealing((("i", "blocks", "x"),), ()), size * 2
            for dealing, other, expected in [
                (blocks, whole(), many * (size - 1)), (PARTS, blocks, many * (size - 1)),
                (PARTS, whole(), many * size * (size - 1)), (whole(), blocks, 0),
            ]:
                found = letters_of(sides, dealing, other, grid)
                self.assertEqual(sum(len(wants) for _, _, wants in found), expected)


class TestArguments(unittest.TestCase):
    SIDES = (("i", 3), ("k", 2))

    def test_lists_names_and_asked_twice(self):
        first, second = Dealing((("k", "turns", "y"),), ("x",)), Dealing((("i", "blocks", "x"),), ())
        pieces = parts_mixed(self.SIDES, first, FOUR)
        letters_found = letters_of(self.SIDES, first, second, FOUR)
        self.assertTrue(letters_found)
        for sides in (self.SIDES, listed(self.SIDES), tuple(listed(self.SIDES)), list(self.SIDES)):
            before = listed(sides)
            for _ in range(2):
                self.assertEqual(letters_of(grid=FOUR, other=second, dealing=first, sides=sides), letters_found)
                self.assertEqual(numbers_sent(grid=FOUR, other=second, dealing=first, sides=sides),
                                 numbers_sent(self.SIDES, first, second, FOUR))
                self.assertEqual(exchanged(grid=FOUR, other=second, dealing=first, sides=sides, pieces=list(pieces)),
                                 exchanged(pieces, self.SIDES, first, second, FOUR))
            self.assertEqual(listed(sides), before)

    def test_arguments_are_not_changed(self):
        first, second = Dealing((("k", "turns", "y"),), ("x",)), Dealing((("i", "blocks", "x"),), ())
        pieces = list(parts_mixed(self.SIDES, first, FOUR))
        before = list(pieces)
        after = exchanged(pieces, self.SIDES, first, second, FOUR)
        self.assertEqual(pieces, before)
        self.assertEqual((first.cuts, first.parts, second.cuts, second.parts),
                         ((("k", "turns", "y"),), ("x",), (("i", "blocks", "x"),), ()))
        pieces.clear()
        self.assertEqual(len(after), 4)

    def test_kinds_of_values(self):
        for grid in (ONE, FOUR):
            for dealing in dealings(self.SIDES, grid):
                found = letters_of(self.SIDES, dealing, whole(), grid)
                self.assertIs(type(found), tuple)
                for letter in found:
                    self.assertEqual([type(part) for part in letter], [int, int, tuple])
                    for want in letter[2]:
                        self.assertEqual([type(part) for part in want], [tuple, tuple])
                self.assertIs(type(numbers_sent(self.SIDES, dealing, whole(), grid)), int)

    def test_the_own_rows(self):
        # The pieces after an exchange have the places of the second dealing, also where zeros are got.
        for other in dealings(self.SIDES, FOUR):
            after = exchanged(cut_array(array_mixed(self.SIDES), whole(), FOUR), self.SIDES, whole(), other, FOUR)
            self.assertIs(type(after), tuple)
            for machine, (rows, cells) in enumerate(after):
                self.assertEqual(rows, rows_of(other, self.SIDES, FOUR, machine))
                if any(along(FOUR, machine)[direction] for direction in other.parts):
                    self.assertFalse(any(cells))


if __name__ == "__main__":
    unittest.main()
