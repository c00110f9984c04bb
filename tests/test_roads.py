"""Point [20]: roads of several exchanges."""

import itertools
import time
import unittest

from any_values import listed
from brute import letters, wants_exchanged, whole
from dealtarrays.exchanges import numbers_sent
from dealtarrays.grids import Dealing, Grid, dealings
from dealtarrays.roads import distances, least_road
from plan_model import costs_between, key, least_roads

ROWS = [Grid((("x", size),)) for size in (1, 2, 3, 4)]
SQUARE = Grid((("x", 2), ("y", 2)))
OTHERS = [SQUARE, Grid((("x", 1), ("y", 3))), Grid((("a", 4), ("b", 1)))]
PARTS = Dealing((), ("x",))


def cut(side, kind, direction="x"):
    return Dealing(((side, kind, direction),), ())


def road_cost(sides, road, grid):
    return sum(numbers_sent(sides, a, b, grid) for a, b in zip(road, road[1:]))


class RoadCase(unittest.TestCase):
    def check(self, sides, grid, starts=None):
        """All roads from some dealings against those found by trying them by their lengths."""
        known = costs_between(sides, grid)
        for dealing in known[0] if starts is None else known[0][starts]:
            best = least_roads(sides, dealing, grid, known)
            for other in known[0]:
                cost, _, row = best[key(other)]
                found = least_road(sides, dealing, other, grid)
                self.assertEqual((found[0], tuple(map(key, found[1]))), (cost, row), (key(dealing), key(other)))
                self.assertEqual(found[0], road_cost(sides, found[1], grid))
            self.assertEqual(distances(sides, dealing, grid), tuple(best[key(other)][0] for other in known[0]))


class TestLeastRoads(RoadCase):
    def test_all_roads_along_one_direction(self):
        for grid in ROWS:
            for sides in [(), (("i", 1),), (("i", 5),), (("i", 3), ("k", 4)), (("i", 4), ("k", 4))]:
                self.check(sides, grid)
        self.check((("h", 2), ("i", 3), ("k", 5)), ROWS[2])
        self.check((("h", 2), ("i", 3), ("j", 4), ("k", 3)), ROWS[3], slice(0, 10, 3))

    def test_roads_along_two_directions(self):
        for grid in OTHERS:
            self.check((), grid)
            self.check((("i", 3),), grid)
            self.check((("i", 3), ("k", 3)), grid, slice(1, 28, 9))

    def test_roads_along_three_directions(self):
        self.check((("i", 4),), Grid((("a", 2), ("b", 1), ("c", 2))), slice(0, 20, 7))

    def test_the_costs_are_those_of_the_letters(self):
        sides = (("i", 4), ("k", 2))
        for grid in (ROWS[3], SQUARE):
            for dealing, other in itertools.islice(itertools.product(dealings(sides, grid), repeat=2), 0, None, 13):
                cost, road = least_road(sides, dealing, other, grid)
                sent = [letters(wants_exchanged(sides, a, b, grid)) for a, b in zip(road, road[1:])]
                self.assertEqual(cost, sum(len(wants) for row in sent for _, _, wants in row))

    def test_no_row_of_up_to_four_dealings_costs_less(self):
        for grid in (ROWS[2], ROWS[3]):
            sides = (("i", 4),)
            found = dealings(sides, grid)
            costs = {(key(a), key(b)): numbers_sent(sides, a, b, grid) for a in found for b in found}
            for dealing, other in itertools.product(found, repeat=2):
                rows = [[dealing] for _ in range(dealing == other)]
                rows += [[dealing, *middle, other] for many in (0, 1, 2)
                         for middle in itertools.product(found, repeat=many)]
                best = min((sum(costs[key(a), key(b)] for a, b in zip(row, row[1:])), len(row), tuple(map(key, row)))
                           for row in rows)
                cost, road = least_road(sides, dealing, other, grid)
                self.assertEqual((cost, len(road), tuple(map(key, road))), best)


class TestKnownRoads(RoadCase):
    def test_out_of_parts_by_way_of_blocks(self):
        # By [18] it is 2 * n * (g - 1) against n * g * (g - 1).
        for size in (3, 4):
            grid, sides = Grid((("x", size),)), (("i", size), ("k", 2))
            cost, road = least_road(sides, PARTS, whole(), grid)
            self.assertEqual(cost, 2 * (size * 2) * (size - 1))
            self.assertEqual(road, (PARTS, cut("i", "blocks"), whole()))

    def test_of_equal_costs_the_fewest_exchanges(self):
        grid, sides = Grid((("x", 2),)), (("i", 2),)
        by_way = road_cost(sides, (PARTS, cut("i", "blocks"), whole()), grid)
        self.assertEqual(by_way, numbers_sent(sides, PARTS, whole(), grid))
        self.assertEqual(least_road(sides, PARTS, whole(), grid), (4, (PARTS, whole())))
        self.assertEqual(least_road(sides, whole(), cut("i", "turns"), grid), (0, (whole(), cut("i", "turns"))))

    def test_of_equal_costs_and_exchanges_the_first(self):
        grid = Grid((("x", 4),))
        for sides, first in [
            ((("i", 4), ("k", 4)), cut("i", "blocks")), ((("i", 3), ("k", 4)), cut("i", "blocks")),
            ((("b", 4), ("k", 4)), cut("b", "blocks")), ((("k", 4),), cut("k", "blocks")),
        ]:
            self.assertEqual(least_road(sides, PARTS, whole(), grid)[1], (PARTS, first, whole()))

    def test_to_itself(self):
        for grid in ROWS + OTHERS:
            for dealing in dealings((("i", 3),), grid):
                self.assertEqual(least_road((("i", 3),), dealing, dealing, grid), (0, (dealing,)))

    def test_a_road_of_no_costs_is_not_longer_than_it_must_be(self):
        # On a direction with one place all dealings are alike.
        grid = Grid((("x", 1),))
        for dealing, other in itertools.permutations(dealings((("i", 3),), grid), 2):
            self.assertEqual(least_road((("i", 3),), dealing, other, grid), (0, (dealing, other)))

    def test_distances_of_a_known_array(self):
        grid, sides = Grid((("x", 3),)), (("i", 3),)
        self.assertEqual([key(dealing) for dealing in dealings(sides, grid)], [
            ((), ()), ((), ("x",)), ((("i", "blocks", "x"),), ()), ((("i", "turns", "x"),), ()),
        ])
        self.assertEqual(distances(sides, whole(), grid), (0, 0, 0, 0))
        self.assertEqual(distances(sides, PARTS, grid), (12, 0, 6, 6))
        self.assertEqual(distances(sides, cut("i", "blocks"), grid), (6, 2, 0, 0))


class TestArguments(unittest.TestCase):
    SIDES = (("i", 4), ("k", 2))
    GRID = ROWS[3]

    def test_lists_names_and_asked_twice(self):
        for other in dealings(self.SIDES, self.GRID):
            expected = least_road(self.SIDES, PARTS, other, self.GRID)
            for sides in (self.SIDES, listed(self.SIDES), tuple(listed(self.SIDES)), list(self.SIDES)):
                before = listed(sides)
                for _ in range(2):
                    self.assertEqual(least_road(grid=self.GRID, other=other, dealing=PARTS, sides=sides), expected)
                    self.assertEqual(distances(grid=self.GRID, dealing=other, sides=sides),
                                     distances(self.SIDES, other, self.GRID))
                self.assertEqual(listed(sides), before)

    def test_kinds_of_values(self):
        cost, road = least_road(self.SIDES, PARTS, whole(), self.GRID)
        self.assertIs(type(least_road(self.SIDES, PARTS, whole(), self.GRID)), tuple)
        self.assertIs(type(cost), int)
        self.assertIs(type(road), tuple)
        self.assertTrue(all(type(dealing) is Dealing for dealing in road))
        found = distances(self.SIDES, PARTS, self.GRID)
        self.assertIs(type(found), tuple)
        self.assertTrue(all(type(cost) is int for cost in found))

    def test_arguments_are_not_changed(self):
        first, second = Dealing((), ("x",)), cut("k", "turns")
        least_road(self.SIDES, first, second, self.GRID)
        distances(self.SIDES, first, self.GRID)
        self.assertEqual([key(first), key(second)], [((), ("x",)), ((("k", "turns", "x"),), ())])
        self.assertEqual(self.GRID.directions, (("x", 4),))

    def test_the_largest_in_good_time(self):
        start = time.process_time()
        grid, sides = Grid((("a", 2), ("b", 1), ("c", 2))), (("i", 3), ("k", 3))
        found = dealings(sides, grid)
        self.assertEqual(len(found), 104)
        for at in range(0, 104, 26):
            cost, road = least_road(sides, found[at], found[103 - at], grid)
            self.assertEqual(cost, road_cost(sides, road, grid))
            self.assertEqual(cost, distances(sides, found[at], grid)[103 - at])
        largest = (("h", 2), ("i", 4), ("j", 5), ("k", 5))
        cost, road = least_road(largest, PARTS, whole(), self.GRID)
        self.assertEqual(cost, distances(largest, PARTS, self.GRID)[0])
        self.assertLess(time.process_time() - start, 20)


if __name__ == "__main__":
    unittest.main()
