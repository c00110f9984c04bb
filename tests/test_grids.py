"""Point [11]: grids and their machines."""

import itertools
import unittest

from any_values import ANY_VALUES, BAD_WORDS, GOOD_WORDS, HUGE, NO_INTEGERS, NO_WORDS, nested
from dealtarrays.arrays import Array
from dealtarrays.errors import DealError, InvalidGrid, NoMachine
from dealtarrays.grids import Dealing, Grid

GOOD = [
    (("x", 1),), (("x", 4),), [["x", 2]], (["x", 3],), [("x", 3)], (("x", 2), ("y", 4)), (("x", 4), ("y", 2)),
    (("a", 2), ("b", 2), ("c", 2)), (("a", 1), ("b", 1), ("c", 1)), (("a", 1), ("b", 4), ("c", 2)),
    (("i", 2), ("i0", 2)),
]
BAD = [
    (), [], (("x", 0),), (("x", 5),), (("x", -1),), (("x", HUGE),), (("x", -HUGE),), (("x", True),), (("x", "2"),),
    (("x", None),), (("x", (2,)),), (("x",),), (("x", 2, 2),), ("x", 2), ("x2",), (("x", 2), ("x", 2)),
    (("x", 2), ("x", 3)), (("y", 2), ("x", 2)), (("a", 1), ("c", 1), ("b", 1)), (("x", 3), ("y", 3)),
    (("x", 4), ("y", 3)), (("x", 4), ("y", 4)), (("a", 2), ("b", 2), ("c", 3)), (("a", 3), ("b", 3), ("c", 1)),
    (("a", 1), ("b", 1), ("c", 1), ("d", 1)), (("x", 2), None), (("x", 2), "y2"), (("x", 2), ("Y", 2)),
    (("X", 2), ("y", 2)), ((2, "x"),), (None,), (("x", 2), ("y", 5)), (("x", 2), ("y", 0)), nested(10, "x"),
    nested(10, 2),
    ((("x", 2),),), [[["x", 2]]], (("x", 2), ()), ((1, 2),), ((["x"], 2),),
]


class TestGrid(unittest.TestCase):
    def test_good_grids(self):
        for directions in GOOD:
            grid = Grid(directions)
            self.assertEqual(grid.directions, tuple((name, size) for name, size in directions))
            self.assertEqual(Grid(directions=directions), grid)

    def test_attributes_are_set_on_the_object(self):
        self.assertIn("directions", vars(Grid((("x", 2),))))
        self.assertIn("many", vars(Grid((("x", 2),))))

    def test_many(self):
        for sizes in itertools.chain(*(itertools.product(range(1, 5), repeat=many) for many in (1, 2, 3))):
            directions = tuple(zip("abc", sizes))
            product = 1
            for size in sizes:
                product *= size
            if product <= 8:
                self.assertEqual(Grid(directions).many, product)
                self.assertIs(type(Grid(directions).many), int)
            else:
                self.check_bad(directions)

    def test_bad_grids(self):
        for directions in BAD:
            self.check_bad(directions)

    def test_values_of_any_kind(self):
        for value in ANY_VALUES:
            self.check_bad(value)
            self.check_bad((("x", 2), value))
            # A pair of a word and a small number is a direction.
            if value not in (("a", 2), ["a", 2]):
                self.check_bad([value])

    def test_names_and_sizes_of_any_kind(self):
        for word in GOOD_WORDS:
            self.assertEqual(Grid(((word, 3),)).directions, ((word, 3),))
        for value in NO_WORDS + BAD_WORDS:
            self.check_bad(((value, 2),))
            self.check_bad((("a", 2), (value, 2)))
        for value in NO_INTEGERS:
            self.check_bad((("x", value),))
            self.check_bad((("x", 2), ("y", value)))
        for size in range(-3, 9):
            if 1 <= size <= 4:
                self.assertEqual(Grid((("x", size),)).many, size)
            else:
                self.check_bad((("x", size),))

    def check_bad(self, directions):
        with self.assertRaises(InvalidGrid) as caught:
            Grid(directions)
        self.assertIs(caught.exception.directions, directions)
        self.assertIsInstance(caught.exception, DealError)

    def test_lists_that_are_changed_afterwards(self):
        directions = [["x", 2], ["y", 3]]
        grid = Grid(directions)
        directions[0][1] = 4
        directions[1].append(7)
        directions.append(["z", 1])
        self.assertEqual(grid.directions, (("x", 2), ("y", 3)))
        self.assertEqual(grid.many, 6)
        self.assertEqual(grid.place_of(5), (1, 2))

    def test_the_argument_is_not_changed(self):
        directions = [["x", 2], ["y", 3]]
        Grid(directions)
        self.assertEqual(directions, [["x", 2], ["y", 3]])


class TestMachines(unittest.TestCase):
    def test_places_ascending(self):
        for directions in GOOD:
            grid = Grid(directions)
            expected = list(itertools.product(*(range(size) for _, size in directions)))
            self.assertEqual([grid.place_of(machine) for machine in range(grid.many)], expected)
            for machine, place in enumerate(expected):
                self.assertIs(type(grid.place_of(machine)), tuple)
                self.assertEqual(grid.machine_at(place), machine)
                self.assertEqual(grid.machine_at(list(place)), machine)
                self.assertEqual(grid.machine_at(place=grid.place_of(machine=machine)), machine)

    def test_the_last_direction_runs_fastest(self):
        grid = Grid((("x", 2), ("y", 3)))
        self.assertEqual([grid.place_of(machine) for machine in range(6)],
                         [(0, 0), (0, 1), (0, 2), (1, 0), (1, 1), (1, 2)])

    def test_no_machine(self):
        for directions in GOOD:
            grid = Grid(directions)
            for machine in ANY_VALUES + [grid.many, grid.many + 1, -1, -grid.many, 8, HUGE, (0,), [0], "0"]:
                if isinstance(machine, int) and not isinstance(machine, bool) and 0 <= machine < grid.many:
                    continue
                with self.assertRaises(NoMachine) as caught:
                    grid.place_of(machine)
                self.assertIs(caught.exception.machine, machine)
                self.assertIsInstance(caught.exception, DealError)


class TestEquality(unittest.TestCase):
    def test_the_same_directions(self):
        for first in GOOD:
            for second in GOOD:
                same = [tuple(pair) for pair in first] == [tuple(pair) for pair in second]
                self.assertIs(Grid(first) == Grid(second), same)
                self.assertIs(Grid(first) != Grid(second), not same)

    def test_as_many_machines_in_another_way(self):
        for second in [(("x", 2), ("y", 2)), (("y", 4),), (("x", 4), ("y", 1)), (("x", 1), ("y", 4))]:
            self.assertIs(Grid((("x", 4),)) == Grid(second), False)
            self.assertIs(Grid((("x", 4),)) != Grid(second), True)

    def test_other_kinds(self):
        grid = Grid((("x", 2),))
        others = ANY_VALUES + [(("x", 2),), Array((("x", 2),), (0, 1)), Dealing((), ("x",)), object(), grid.directions]
        for other in others:
            self.assertIs(grid == other, False)
            self.assertIs(grid != other, True)
            self.assertIs(other == grid, False)
            self.assertIs(other != grid, True)


if __name__ == "__main__":
    unittest.main()
