"""Point [5]: arrays, places, sides."""

import itertools
import unittest

from any_values import ANY_VALUES, HUGE, NO_INTEGERS, NO_ROWS, NO_WORDS, nested
from dealtarrays.arrays import Array, is_sides, places
from dealtarrays.errors import DealError, InvalidCells, InvalidSides

GOOD_SIDES = [
    (), [], (("i", 1),), [["i", 6]], [("i", 6)], (["i", 6],), (("i", 2), ("k", 3)),
    (("a", 1), ("b", 1), ("c", 1)), (("a", 6), ("b", 6), ("c", 5)),
    (("a", 2), ("b", 3), ("c", 4), ("d", 5)), (("a", 1), ("b", 1), ("c", 1), ("d", 1)),
    (("a", 5), ("b", 5), ("c", 4), ("d", 2)), (("a", 4), ("b", 5), ("d", 5), ("e", 2)),
    (("a9", 2), ("aa", 2)), (("i", 2), ("i0", 2)),
]

TOO_LARGE = [
    (("a", 1), ("b", 1), ("c", 1), ("d", 1), ("e", 1)), (("a", 6), ("b", 6), ("c", 6)),
    (("a", 5), ("b", 6), ("c", 6), ("d", 2)), (("a", 3), ("b", 3), ("c", 5), ("d", 5)),
    (("a", 6), ("b", 6), ("c", 6), ("d", 1)), (("a", 6), ("b", 6), ("c", 6), ("d", 6)),
]

BAD_SIDES = TOO_LARGE + [
    (("k", 2), ("i", 2)), (("i", 2), ("i", 2)), (("i", 2), ("i", 3)), (("a", 2), ("c", 2), ("b", 2)),
    (("i", 2), ("k", 2), ("k", 2)), (("i", 0),), (("i", 7),), (("i", -1),), (("i", HUGE),), (("i", -HUGE),),
    (("i", True),), (("i", False),), (("i", "2"),), (("i", None),), (("i", (2,)),), (("I", 2),), (("", 2),),
    ((1, 2),), ((None, 2),), (((), 2),), ((["i"], 2),), (("i",),), (("i", 2, 2),), ((),), ("i2",), ("i", 2),
    (None,), (("i", 2), None), (("i", 2), 1), (("i", 2), "k2"), (("i", 2), ("k",)), (("i", 2), ("k", 0)),
    (("i", 7), ("k", 2)), (("i", 2), ("K", 2)), (("i", 2), (3, 2)), ((3, 2), ("i", 2)), (("i", 2), (None, 2)),
    [["i", True]], nested(10, "i"), nested(10, 2), nested(9, ("i", 2)),
]


def many(sides):
    count = 1
    for _, size in sides:
        count *= size
    return count


class TestSides(unittest.TestCase):
    def test_sides(self):
        for sides in GOOD_SIDES:
            self.assertIs(is_sides(sides), True, sides)
            array = Array(sides, [0] * many(sides))
            self.assertEqual(array.sides, tuple((name, size) for name, size in sides))

    def test_each_size(self):
        for size in range(-3, 12):
            self.assertIs(is_sides((("i", size),)), 1 <= size <= 6)

    def test_no_sides(self):
        for sides in BAD_SIDES:
            self.assertIs(is_sides(sides), False, sides)
            with self.assertRaises(InvalidSides) as caught:
                Array(sides, (0,))
            self.assertIs(caught.exception.sides, sides)

    def test_values_of_any_kind(self):
        for value in ANY_VALUES:
            expected = isinstance(value, (list, tuple)) and len(value) == 0
            self.assertIs(is_sides(value), expected, value)
            if not expected:
                with self.assertRaises(InvalidSides):
                    Array(value, (0,))

    def test_names_and_sizes_of_any_kind(self):
        for value in NO_WORDS:
            self.assertIs(is_sides(((value, 2),)), False, value)
            self.assertIs(is_sides((("a", 2), (value, 2))), False, value)
            self.assertIs(is_sides(((value, 2), ("z", 2))), False, value)
        for value in NO_INTEGERS:
            self.assertIs(is_sides((("a", value),)), False, value)
            self.assertIs(is_sides((("a", 2), ("b", value))), False, value)

    def test_products_about_two_hundred(self):
        for sizes in itertools.product(range(1, 7), repeat=4):
            product = sizes[0] * sizes[1] * sizes[2] * sizes[3]
            self.assertIs(is_sides(tuple(zip("abcd", sizes))), product <= 200, sizes)
        for sizes in itertools.product(range(1, 7), repeat=3):
            self.assertIs(is_sides(tuple(zip("abc", sizes))), sizes[0] * sizes[1] * sizes[2] <= 200, sizes)


class TestCells(unittest.TestCase):
    IK = (("i", 2), ("k", 3))

    def check_no_cells(self, sides, cells):
        with self.assertRaises(InvalidCells) as caught:
            Array(sides, cells)
        self.assertIs(caught.exception.cells, cells)

    def test_cells(self):
        for cells in [(1, 2, 3, 4, 5, 6), [0] * 6, (-1, HUGE, -HUGE, 0, 1, 2), [1, 2, 3, 4, 5, 6]]:
            array = Array(self.IK, cells)
            self.assertEqual(array.cells, tuple(cells))
            self.assertIsInstance(array.cells, tuple)

    def test_too_few_and_too_many(self):
        for count in [0, 1, 5, 7, 12, 200]:
            self.check_no_cells(self.IK, (1,) * count)
            self.check_no_cells(self.IK, [1] * count)
        for cells in [(), [], (1, 2)]:
            self.check_no_cells((), cells)

    def test_no_sequences(self):
        for value in NO_ROWS + ["123456"]:
            self.check_no_cells(self.IK, value)
            self.check_no_cells((), value)
            self.check_no_cells((("i", 1),), value)

    def test_no_integers_at_any_place(self):
        for value in NO_INTEGERS:
            for at in range(6):
                cells = [1] * 6
                cells[at] = value
                self.check_no_cells(self.IK, cells)
            self.check_no_cells((), (value,))

    def test_values_of_any_kind(self):
        for value in ANY_VALUES:
            self.check_no_cells((("i", 5), ("j", 5), ("k", 5)), value)

    def test_sides_are_looked_at_first(self):
        for sides in BAD_SIDES:
            for cells in [None, (), (True,), "ab", [None]]:
                with self.assertRaises(InvalidSides):
                    Array(sides, cells)

    def test_the_errors_are_under_deal_error(self):
        with self.assertRaises(DealError):
            Array(None, None)
        with self.assertRaises(ValueError):
            Array((), None)


class TestPlaces(unittest.TestCase):
    def test_places_of_no_sides(self):
        self.assertEqual(places(()), ((),))
        self.assertEqual(places([]), ((),))
        self.assertEqual(Array((), (7,)).cell(()), 7)
        self.assertEqual(Array((), (7,)).cell([]), 7)

    def test_the_last_side_runs_fastest(self):
        self.assertEqual(places((("i", 2), ("k", 3))), ((0, 0), (0, 1), (0, 2), (1, 0), (1, 1), (1, 2)))
        self.assertEqual(places([["i", 3]]), ((0,), (1,), (2,)))

    def test_places_ascend(self):
        for sides in GOOD_SIDES:
            found = places(sides)
            self.assertEqual(list(found), sorted(found))
            self.assertEqual(found, tuple(itertools.product(*[range(size) for _, size in sides])))

    def test_the_cell_at_each_place(self):
        for sides in GOOD_SIDES:
            cells = [at * at - 5 for at in range(many(sides))]
            array = Array(sides, cells)
            self.assertEqual([array.cell(place) for place in places(sides)], cells)
            self.assertEqual([array.cell(list(place)) for place in places(sides)], cells)

    def test_the_cell_is_found_along_its_own_sides(self):
        array = Array((("i", 2), ("k", 3)), (1, 2, 3, 4, 5, 6))
        self.assertEqual(array.cell((0, 2)), 3)
        self.assertEqual(array.cell((1, 0)), 4)
        self.assertEqual(array.cell((1, 2)), 6)


class Willing:
    """Something that takes itself for like anything."""

    def __eq__(self, other):
        return True

    def __ne__(self, other):
        return False


class TestEquality(unittest.TestCase):
    IK = (("i", 2), ("k", 2))

    def check(self, first, second, alike):
        self.assertIs(first == second, alike)
        self.assertIs(first != second, not alike)

    def test_same_sides_and_cells(self):
        self.check(Array(self.IK, (1, 2, 3, 4)), Array([["i", 2], ["k", 2]], [1, 2, 3, 4]), True)
        self.check(Array((), (1,)), Array([], [1]), True)
        array = Array(self.IK, (1, 2, 3, 4))
        self.check(array, array, True)

    def test_other_cells(self):
        for cells in [(1, 2, 3, 5), (2, 1, 3, 4), (0, 0, 0, 0)]:
            self.check(Array(self.IK, (1, 2, 3, 4)), Array(self.IK, cells), False)

    def test_other_sides(self):
        for sides in [(("i", 2), ("l", 2)), (("i", 1), ("k", 4)), (("i", 4),)]:
            self.check(Array(self.IK, (1, 2, 3, 4)), Array(sides, (1, 2, 3, 4)), False)
        self.check(Array((), (1,)), Array((("i", 1),), (1,)), False)

    def test_other_kinds(self):
        array = Array(self.IK, (1, 2, 3, 4))
        for other in [self.IK, (1, 2, 3, 4), (self.IK, (1, 2, 3, 4)), Willing(), object(), Array, InvalidCells(1)]:
            self.check(array, other, False)
        for other in ANY_VALUES:
            self.check(array, other, False)
            self.assertIs(other == array, False)
            self.assertIs(other != array, True)


class TestLaterChanges(unittest.TestCase):
    def test_lists_that_are_changed_after_they_were_passed(self):
        side, cells = ["i", 2], [1, 2]
        sides = [side]
        array = Array(sides, cells)
        side[0] = "j"
        side.append(3)
        sides.append(["k", 2])
        cells[0] = 9
        cells.append(9)
        self.assertEqual(array.sides, (("i", 2),))
        self.assertEqual(array.cells, (1, 2))
        self.assertEqual(array.cell((0,)), 1)
        self.assertEqual(array, Array((("i", 2),), (1, 2)))
