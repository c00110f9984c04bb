"""Points [12] and [13]: dealings, and the places that machines have by them."""

import itertools
import unittest

from any_values import ANY_VALUES, GOOD_WORDS, NO_WORDS, listed, nested
from dealtarrays.arrays import Array
from dealtarrays.errors import DealError, InvalidDealing, NoMachine
from dealtarrays.grids import Dealing, Grid, dealings, fits, places_of

GRIDS = [
    Grid((("x", 1),)), Grid((("x", 2),)), Grid((("x", 3),)), Grid((("x", 4),)), Grid((("x", 2), ("y", 2))),
    Grid((("x", 2), ("y", 4))), Grid((("x", 3), ("y", 2))), Grid((("a", 2), ("x", 2), ("y", 2))),
]
SIDES = [(), (("i", 1),), (("i", 5),), (("i", 2), ("k", 6)), (("i", 3), ("j", 4), ("k", 2))]

GOOD = [
    ((), ()), ([], []), ((), ("x",)), ((), ["x", "y", "z"]), ((("i", "blocks", "x"),), ()), ([["i", "turns", "x"]], []),
    ((("i", "blocks", "x"), ("k", "turns", "y")), ("z",)), ([("i", "turns", "y"), ["k", "blocks", "x"]], ()),
    ((("x", "blocks", "x"),), ("i", "y")), ((("blocks", "turns", "turns"),), ("blocks",)),
    ((("a", "turns", "p"), ("b", "turns", "q"), ("c", "turns", "r"), ("d", "blocks", "s")), ("t", "u")),
]
GOOD_CUT = ("i", "blocks", "x")
BAD_CUTS = [
    (("i", "block", "x"),), (("i", "turn", "x"),), (("i", "", "x"),), (("i", "Blocks", "x"),), (("i", None, "x"),),
    (("i", ("blocks",), "x"),), (("i", ["turns"], "x"),), (("i", 0, "x"),), (("i", "blocks"),),
    (("i", "blocks", "x", "y"),),
    (("i", "x", "blocks"),), (("blocks", "i", "x"),), ("i", "blocks", "x"), ("ibx",), (GOOD_CUT, GOOD_CUT),
    (GOOD_CUT, ("i", "turns", "y")), (GOOD_CUT, ("k", "turns", "x")), (("k", "blocks", "y"), GOOD_CUT),
    (("a", "turns", "x"), ("c", "turns", "y"), ("b", "turns", "z")),
    (("a", "turns", "x"), ("b", "turns", "y"), ("c", "turns", "x")),
    (GOOD_CUT, None), (GOOD_CUT, ()), (GOOD_CUT, "kty"), ((GOOD_CUT,),), [[list(GOOD_CUT)]], (True,), nested(10, "x"),
]
BAD_PARTS = [
    ("y", "x"), ("x", "x"), ("x", "z", "y"), ("x", "y", "y"), (("x",),), (["x"],), ("x", None), (1,), (True,), (None,),
    ("X",), ("",), ("x", "Y"), (("x", 2),), nested(10, "x"), nested(10, ()),
]


class TestDealing(unittest.TestCase):
    def check_bad(self, cuts, parts):
        with self.assertRaises(InvalidDealing) as caught:
            Dealing(cuts, parts)
        self.assertIs(caught.exception.cuts, cuts)
        self.assertIs(caught.exception.parts, parts)
        self.assertIsInstance(caught.exception, DealError)

    def test_good_ones(self):
        for cuts, parts in GOOD:
            lists = Dealing(listed(cuts), listed(parts))
            for dealing in [Dealing(cuts, parts), Dealing(parts=parts, cuts=cuts), lists]:
                self.assertEqual(dealing.cuts, tuple(tuple(cut) for cut in cuts))
                self.assertEqual(dealing.parts, tuple(parts))
                self.assertIn("cuts", vars(dealing))
                self.assertIn("parts", vars(dealing))

    def test_words_of_any_kind(self):
        for word in GOOD_WORDS:
            self.assertEqual(Dealing(((word, "turns", "x"),), ()).cuts, ((word, "turns", "x"),))
            self.assertEqual(Dealing((("i", "blocks", word),), ()).cuts, (("i", "blocks", word),))
            self.assertEqual(Dealing((), (word,)).parts, (word,))
        for value in NO_WORDS:
            self.check_bad(((value, "turns", "x"),), ())
            self.check_bad((("i", "turns", value),), ())
            self.check_bad((GOOD_CUT, (value, "turns", "y")), ())
            self.check_bad((GOOD_CUT, ("k", "turns", value)), ())
            self.check_bad((), (value,))
            self.check_bad((), ("x", value))
            self.check_bad((), (value, "x"))

    def test_kinds_of_any_kind(self):
        for value in ANY_VALUES:
            if value != "blocks":
                self.check_bad((("i", value, "x"),), ())
                self.check_bad([GOOD_CUT, ["k", value, "y"]], ("z",))

    def test_bad_cuts(self):
        for cuts in BAD_CUTS:
            for parts in [(), ("z",), ["a", "b"], None, BAD_PARTS[0]]:
                self.check_bad(cuts, parts)
                self.check_bad(listed(cuts), parts)

    def test_bad_parts(self):
        for parts in BAD_PARTS:
            for cuts in [(), [GOOD_CUT], (("i", "blocks", "a"),), None, BAD_CUTS[0]]:
                self.check_bad(cuts, parts)
                self.check_bad(cuts, listed(parts))

    def test_values_of_any_kind(self):
        for value in ANY_VALUES:
            if value not in ((), []):
                self.check_bad(value, ())
            # Rows of these words are parts.
            if not isinstance(value, (list, tuple)) or any(part not in ("a", "ab", "cd") for part in value):
                self.check_bad((), value)
                self.check_bad(value, value)
            self.check_bad((value,), ())
            self.check_bad([GOOD_CUT, value], ())

    def test_a_direction_of_cuts_in_parts(self):
        self.check_bad((GOOD_CUT,), ("x",))
        self.check_bad((GOOD_CUT,), ("w", "x", "y"))
        self.check_bad((GOOD_CUT, ("k", "turns", "a")), ("a",))
        self.check_bad((("a", "turns", "k"),), ["k"])

    def test_equality(self):
        for at, first in enumerate(GOOD):
            for other, second in enumerate(GOOD):
                same = at == other or {at, other} == {0, 1}
                self.assertIs(Dealing(*first) == Dealing(*second), same)
                self.assertIs(Dealing(*first) != Dealing(*second), not same)
        self.assertTrue(Dealing((GOOD_CUT,), ("y",)) == Dealing([list(GOOD_CUT)], ["y"]))
        for cuts, parts in [((), ("y",)), ((GOOD_CUT,), ()), ((("i", "turns", "x"),), ("y",)), ((GOOD_CUT,), ("z",)),
                            ((("k", "blocks", "x"),), ("y",)), ((("i", "blocks", "z"),), ("y",))]:
            self.assertIs(Dealing((GOOD_CUT,), ("y",)) == Dealing(cuts, parts), False)
            self.assertIs(Dealing((GOOD_CUT,), ("y",)) != Dealing(cuts, parts), True)

    def test_equality_with_other_kinds(self):
        dealing = Dealing((), ())
        for other in ANY_VALUES + [((), ()), Array((), (0,)), Grid((("x", 1),)), object()]:
            self.assertIs(dealing == other, False)
            self.assertIs(dealing != other, True)
            self.assertIs(other == dealing, False)
            self.assertIs(other != dealing, True)

    def test_lists_that_are_changed_afterwards(self):
        cuts, parts = [["i", "blocks", "x"], ["k", "turns", "y"]], ["a", "b"]
        dealing = Dealing(cuts, parts)
        self.assertEqual((cuts, parts), ([["i", "blocks", "x"], ["k", "turns", "y"]], ["a", "b"]))
        cuts[0][1] = "turns"
        cuts[1].append("z")
        cuts.pop()
        parts.append("c")
        self.assertEqual(dealing.cuts, (("i", "blocks", "x"), ("k", "turns", "y")))
        self.assertEqual(dealing.parts, ("a", "b"))


class TestFits(unittest.TestCase):
    def test_sides_and_directions(self):
        sides, grid = (("i", 2), ("k", 3)), Grid((("x", 2), ("y", 3)))
        for cuts, parts, expected in [
            ((), (), True), ((), ("x",), True), ((), ("x", "y"), True), ((), ("z",), False), ((), ("x", "z"), False),
            ((), ("i",), False), ((GOOD_CUT,), (), True), ((GOOD_CUT,), ("y",), True), ((GOOD_CUT,), ("z",), False),
            ((("j", "blocks", "x"),), (), False), ((("x", "blocks", "x"),), (), False),
            ((("i", "turns", "z"),), (), False),
            ((("i", "turns", "i"),), (), False), ((GOOD_CUT, ("k", "turns", "y")), (), True),
            ((GOOD_CUT, ("k", "turns", "z")), (), False), ((GOOD_CUT, ("l", "turns", "y")), (), False),
        ]:
            for wanted in (sides, listed(sides)):
                self.assertIs(fits(Dealing(cuts, parts), wanted, grid), expected, (cuts, parts))
                self.assertIs(fits(grid=grid, sides=wanted, dealing=Dealing(cuts, parts)), expected)

    def test_an_array_without_sides(self):
        grid = Grid((("x", 2),))
        self.assertIs(fits(Dealing((), ()), (), grid), True)
        self.assertIs(fits(Dealing((), ("x",)), [], grid), True)
        self.assertIs(fits(Dealing((GOOD_CUT,), ()), (), grid), False)


def all_dealings(sides, grid):
    """All dealings that fit, as pairs (cuts, parts), by trying for each direction whatever it may be used for."""
    uses = [None, "parts"] + [(side, kind) for side, _ in sides for kind in ("blocks", "turns")]
    found = set()
    for row in itertools.product(uses, repeat=len(grid.directions)):
        pairs = list(zip(row, [direction for direction, _ in grid.directions]))
        cuts = [(use[0], use[1], direction) for use, direction in pairs if isinstance(use, tuple)]
        if len({cut[0] for cut in cuts}) == len(cuts):
            found.add((tuple(sorted(cuts)), tuple(direction for use, direction in pairs if use == "parts")))
    return sorted(found)


class TestDealings(unittest.TestCase):
    def test_all_that_fit_each_once_ascending(self):
        for grid in GRIDS:
            for sides in SIDES + [(("a", 1), ("b", 1), ("c", 2), ("x", 2))]:
                found = dealings(sides, grid)
                self.assertIs(type(found), tuple)
                self.assertEqual([(dealing.cuts, dealing.parts) for dealing in found], all_dealings(sides, grid))
                for dealing in found:
                    self.assertIs(type(dealing), Dealing)
                    self.assertIs(fits(dealing, sides, grid), True)
                again = dealings(grid=grid, sides=listed(sides))
                self.assertTrue(found == again)

    def test_a_small_grid(self):
        expected = [((), ()), ((), ("x",)), ((("i", "blocks", "x"),), ()), ((("i", "turns", "x"),), ())]
        found = dealings((("i", 2),), Grid((("x", 2),)))
        self.assertEqual([(dealing.cuts, dealing.parts) for dealing in found], expected)

    def test_arguments_are_not_changed(self):
        sides, grid = [["i", 2], ["k", 3]], Grid((("x", 2), ("y", 2)))
        dealings(sides, grid)
        fits(Dealing((GOOD_CUT,), ()), sides, grid)
        places_of(Dealing((GOOD_CUT,), ()), sides, grid, 3)
        self.assertEqual(sides, [["i", 2], ["k", 3]])
        self.assertEqual(grid.directions, (("x", 2), ("y", 2)))


class TestPlaces(unittest.TestCase):
    def test_known_places(self):
        for kind, size, many, expected in [
            ("blocks", 4, 2, [(0, 1), (2, 3)]), ("turns", 4, 2, [(0, 2), (1, 3)]),
            ("blocks", 5, 2, [(0, 1, 2), (3, 4)]), ("turns", 5, 2, [(0, 2, 4), (1, 3)]),
            ("blocks", 6, 4, [(0, 1), (2, 3), (4, 5), ()]), ("turns", 6, 4, [(0, 4), (1, 5), (2,), (3,)]),
            ("blocks", 5, 4, [(0, 1), (2, 3), (4,), ()]), ("turns", 5, 3, [(0, 3), (1, 4), (2,)]),
            ("blocks", 3, 4, [(0,), (1,), (2,), ()]), ("turns", 3, 4, [(0,), (1,), (2,), ()]),
            ("blocks", 1, 3, [(0,), (), ()]), ("turns", 1, 3, [(0,), (), ()]), ("blocks", 2, 1, [(0, 1)]),
            ("turns", 2, 1, [(0, 1)]), ("blocks", 4, 3, [(0, 1), (2, 3), ()]), ("turns", 4, 3, [(0, 3), (1,), (2,)]),
        ]:
            grid, dealing = Grid((("x", many),)), Dealing((("i", kind, "x"),), ())
            for machine in range(many):
                self.assertEqual(places_of(dealing, (("i", size),), grid, machine), (expected[machine],))
                self.assertEqual(places_of(machine=machine, grid=grid, sides=[["i", size]], dealing=dealing),
                                 (expected[machine],))

    def test_each_size_as_the_document_tells(self):
        for size, many in itertools.product(range(1, 7), range(1, 5)):
            grid = Grid((("x", many),))
            block = -(-size // many)
            for machine in range(many):
                blocks = tuple(place for place in range(machine * block, (machine + 1) * block) if place < size)
                turns = tuple(place for place in range(size) if place % many == machine)
                for kind, expected in (("blocks", blocks), ("turns", turns)):
                    dealing = Dealing((("i", kind, "x"),), ())
                    self.assertEqual(places_of(dealing, (("i", size),), grid, machine), (expected,))

    def test_sides_that_are_not_cut(self):
        grid = Grid((("x", 2), ("y", 2)))
        sides = (("h", 2), ("i", 5), ("k", 3))
        for machine in range(4):
            for parts in ((), ("x",), ("x", "y")):
                found = places_of(Dealing((), parts), sides, grid, machine)
                self.assertEqual(found, ((0, 1), (0, 1, 2, 3, 4), (0, 1, 2)))
            self.assertEqual(places_of(Dealing((), ("x",)), (), grid, machine), ())
        dealing = Dealing((("i", "turns", "y"),), ("x",))
        found = [places_of(dealing, sides, grid, machine) for machine in range(4)]
        self.assertEqual([rows[1] for rows in found], [(0, 2, 4), (1, 3), (0, 2, 4), (1, 3)])
        self.assertEqual([rows[::2] for rows in found], [((0, 1), (0, 1, 2))] * 4)

    def test_two_sides_cut_along_two_directions(self):
        grid, sides = Grid((("x", 2), ("y", 3))), (("i", 5), ("k", 4))
        dealing = Dealing((("i", "blocks", "y"), ("k", "turns", "x")), ())
        rows, columns = [(0, 1), (2, 3), (4,)], [(0, 2), (1, 3)]
        for machine, (x, y) in enumerate(itertools.product(range(2), range(3))):
            self.assertEqual(places_of(dealing, sides, grid, machine), (rows[y], columns[x]))

    def test_each_place_belongs_to_one_place_of_the_direction(self):
        for grid in GRIDS:
            for sides in SIDES:
                for dealing in dealings(sides, grid):
                    self.check_each_place_once(dealing, sides, grid)

    def check_each_place_once(self, dealing, sides, grid):
        own = [places_of(dealing, sides, grid, machine) for machine in range(grid.many)]
        numbers = {direction: at for at, (direction, _) in enumerate(grid.directions)}
        cuts = {side: numbers[direction] for side, _, direction in dealing.cuts}
        for at, (side, size) in enumerate(sides):
            for place in range(size):
                along = {grid.place_of(machine)[cuts[side]] for machine in range(grid.many)
                         if place in own[machine][at]} if side in cuts else {0}
                self.assertEqual(len(along), 1, (dealing.cuts, side, place))
        # And all machines at the same place along a direction have the same places of its side.
        for side, number in cuts.items():
            at = [name for name, _ in sides].index(side)
            rows = {(grid.place_of(machine)[number], own[machine][at]) for machine in range(grid.many)}
            self.assertEqual(len(rows), grid.directions[number][1])

    def test_no_machine(self):
        for grid in GRIDS:
            for machine in ANY_VALUES + [grid.many, -1, "0", (0,)]:
                if isinstance(machine, int) and not isinstance(machine, bool) and 0 <= machine < grid.many:
                    continue
                with self.assertRaises(NoMachine) as caught:
                    places_of(Dealing((), ()), (("i", 2),), grid, machine)
                self.assertIs(caught.exception.machine, machine)


if __name__ == "__main__":
    unittest.main()
