"""Points [26] and [27]: trees, step dealings, and the plans that cost least."""

import itertools
import time
import unittest

from any_plans import ROAD_GRIDS, all_step_dealings, any_plan, any_tree, many_rows
from any_values import listed
from brute import SMALL_GRIDS, whole
from dealtarrays.errors import TooMany
from dealtarrays.grids import Dealing, Grid, dealings
from dealtarrays.planners import best_plan, step_dealings
from dealtarrays.plans import Plan
from dealtarrays.programs import Program
from dealtarrays.trees import is_tree
from plan_model import key
from test_makes import PROGRAM, STEPS

TWO = Grid((("x", 2),))
THREE = Grid((("x", 3),))
SQUARE = Grid((("x", 2), ("y", 2)))
IK = (("i", 2), ("k", 2))
PRODUCT = Program((("a", IK), ("b", (("j", 2), ("k", 2)))), (("c", "mulsum", "a", "b", ("k",)),))
PARTS = Dealing((), ("x",))


def cut(side, kind="blocks", direction="x"):
    return Dealing(((side, kind, direction),), ())


def all_rows(program, grid):
    choices = [all_step_dealings(program, number, grid) for number in range(len(program.steps))]
    return list(itertools.product(*choices))


def cuts_of(row):
    return tuple(dealing.cuts for dealing in row)


def least_plan(parts, by_roads):
    """The first of all plans with the least cost, tried one by one."""
    best = None
    for row in sorted(all_rows(parts["program"], parts["grid"]), key=cuts_of):
        plan = Plan(dealt=row, by_roads=by_roads, **parts)
        if best is None or plan.cost < best.cost:
            best = plan
    return best


def without_dealt(parts):
    return {name: value for name, value in parts.items() if name not in ("dealt", "by_roads")}


class TestStepDealings(unittest.TestCase):
    def test_each_kind(self):
        for grid in SMALL_GRIDS:
            for number, (_, names, kept) in enumerate(STEPS):
                found = step_dealings(PROGRAM, number, grid)
                sides = tuple((name, 1) for name in names if name != kept)
                expected = sorted(dealing.cuts for dealing in dealings(sides, grid) if dealing.parts == ())
                self.assertEqual([dealing.cuts for dealing in found], expected, STEPS[number])
                self.assertTrue(all(dealing.parts == () for dealing in found))

    def test_known_ones(self):
        self.assertEqual(step_dealings(PRODUCT, 0, TWO), (
            whole(), cut("i"), cut("i", "turns"), cut("j"), cut("j", "turns"), cut("k"), cut("k", "turns"),
        ))
        program = Program((("a", IK),), (("b", "shift", "a", "i", 1), ("c", "pick", "b", "k", 0)))
        self.assertEqual(step_dealings(program, 0, TWO), (whole(), cut("k"), cut("k", "turns")))
        self.assertEqual(step_dealings(program, 1, TWO), (whole(), cut("i"), cut("i", "turns")))
        program = Program((("a", ()),), (("b", "scale", "a", 2),))
        self.assertEqual(step_dealings(program, 0, SQUARE), (whole(),))

    def test_two_directions_ascend_by_cuts(self):
        found = [dealing.cuts for dealing in step_dealings(PRODUCT, 0, SQUARE)]
        self.assertEqual((len(found), found), (37, sorted(found)))
        self.assertEqual(found[:3], [(), (("i", "blocks", "x"),), (("i", "blocks", "x"), ("j", "blocks", "y"))])

    def test_arguments(self):
        found = step_dealings(grid=TWO, number=0, program=PRODUCT)
        self.assertIs(type(found), tuple)
        self.assertTrue(all(type(dealing) is Dealing for dealing in found))


class TestTrees(unittest.TestCase):
    def test_known_trees(self):
        self.assertTrue(is_tree(PRODUCT, (("c", whole()),)))
        self.assertTrue(is_tree(Program((), ()), ()))
        self.assertTrue(is_tree(Program(PRODUCT.inputs, ()), (("b", whole()), ("a", whole()))))

    def test_known_others(self):
        for wanted in [(), ("a",), ("c", "a"), ("c", "b")]:
            self.assertFalse(is_tree(PRODUCT, tuple((name, whole()) for name in wanted)))
        twice = Program((("a", IK),), (("c", "mul", "a", "a"),))
        self.assertFalse(is_tree(twice, (("c", whole()),)))
        shared = Program((("a", IK),), (("b", "scale", "a", 2), ("c", "add", "a", "b")))
        self.assertFalse(is_tree(shared, (("c", whole()),)))
        left = Program((("a", IK), ("b", IK)), (("c", "scale", "a", 2),))
        self.assertFalse(is_tree(left, (("c", whole()),)))
        self.assertTrue(is_tree(left, (("b", whole()), ("c", whole()))))


class BestCase(unittest.TestCase):
    def check(self, parts, by_roads):
        """The best plan, and the one that was found by trying all of them."""
        found = best_plan(by_roads=by_roads, **parts)
        best = least_plan(parts, by_roads)
        self.assertEqual((found.cost, cuts_of(found.dealt)), (best.cost, cuts_of(best.dealt)))
        self.assertEqual((found.given, found.wanted, found.by_roads), (parts["given"], parts["wanted"], by_roads))
        self.assertEqual((found.rounds, found.cost), (best.rounds, best.cost))


class TestBestPlans(BestCase):
    def test_drawn_trees(self):
        checked = 0
        for number in range(80):
            parts = any_tree(number, steps=2 + number % 2)
            for by_roads in (False, True):
                if many_rows(parts["program"], parts["grid"]) <= (60 if by_roads else 450):
                    self.check(parts, by_roads)
                    checked += 1
        self.assertGreater(checked, 90)

    def test_drawn_programs_that_are_no_trees(self):
        checked = 0
        for number in range(80):
            by_roads = number % 2 == 1
            grid = ROAD_GRIDS[number % 3]
            parts = without_dealt(any_plan(number, steps=1 + number % 3, by_roads=True, grid=grid))
            many = many_rows(parts["program"], parts["grid"])
            if not is_tree(parts["program"], parts["wanted"]) and many <= (50 if by_roads else 300):
                self.check(parts, by_roads)
                checked += 1
        self.assertGreater(checked, 25)

    def test_trees_with_many_rows(self):
        parts = any_tree(3, steps=3, grid=SQUARE)
        for number in range(200):
            parts = any_tree(number, steps=3, grid=SQUARE)
            if 1000 < many_rows(parts["program"], SQUARE) < 6000:
                break
        self.assertGreater(many_rows(parts["program"], SQUARE), 1000)
        self.check(parts, False)

    def test_no_other_plan_costs_less(self):
        for number in range(20):
            parts = any_tree(number, steps=5, sides=3, cells=30, grid=ROAD_GRIDS[0 if number % 2 else 1])
            for by_roads in (False, True):
                best = best_plan(by_roads=by_roads, **parts)
                choices = [step_dealings(parts["program"], at, parts["grid"]) for at in range(len(best.dealt))]
                for at, found in enumerate(choices):
                    for other in found:
                        row = (*best.dealt[:at], other, *best.dealt[at + 1:])
                        plan = Plan(dealt=row, by_roads=by_roads, **parts)
                        self.assertGreaterEqual(plan.cost, best.cost)
                        if plan.cost == best.cost:
                            self.assertGreaterEqual(cuts_of(row), cuts_of(best.dealt))


class TestKnownBestPlans(BestCase):
    def test_a_product(self):
        parts = {"program": PRODUCT, "grid": TWO, "given": (cut("i"), whole()), "wanted": (("c", cut("i")),)}
        plan = best_plan(**parts)
        self.assertEqual((plan.dealt, plan.cost), ((cut("i"),), 0))
        self.assertIs(plan.by_roads, False)
        # All are equal here, and the first one is the one without cuts.
        parts = {"program": PRODUCT, "grid": Grid((("x", 1),)), "given": (cut("i"), PARTS), "wanted": ()}
        self.assertEqual(best_plan(**parts).dealt, (whole(),))

    def test_the_first_of_equal_ones_step_by_step(self):
        inputs = (("a", (("i", 4),)), ("b", (("i", 4),)))
        program = Program(inputs, (("c", "scale", "b", 2), ("d", "scale", "a", 3), ("e", "add", "d", "c")))
        for given, wanted, expected in [
            ((whole(), whole()), whole(), (whole(), whole(), whole())),
            ((cut("i"), cut("i")), whole(), (cut("i"), cut("i"), cut("i"))),
            ((whole(), cut("i", "turns")), cut("i", "turns"), (cut("i", "turns"), whole(), cut("i", "turns"))),
            ((cut("i", "turns"), cut("i")), cut("i"), (cut("i"), cut("i"), cut("i"))),
        ]:
            parts = {"program": program, "grid": TWO, "given": given, "wanted": (("e", wanted),)}
            self.check(parts, False)
            self.check(parts, True)
            self.assertEqual(cuts_of(best_plan(**parts).dealt), cuts_of(expected))

    def test_with_roads_it_may_be_another_one(self):
        program = Program((("a", (("i", 3), ("k", 3))),), (("b", "scale", "a", 2),))
        parts = {"program": program, "grid": THREE, "given": (PARTS,), "wanted": (("b", whole()),)}
        straight, roads = best_plan(**parts), best_plan(by_roads=True, **parts)
        self.assertEqual((straight.cost, roads.cost), (36, 36))
        self.assertEqual((straight.dealt, roads.dealt), ((cut("i"),), (whole(),)))
        self.assertIs(roads.by_roads, True)

    def test_nothing_wanted_and_no_steps(self):
        for by_roads in (False, True):
            plan = best_plan(PRODUCT, TWO, (cut("k"), cut("k")), (), by_roads=by_roads)
            self.assertEqual((plan.dealt, plan.cost, plan.wanted), ((cut("k"),), 0, ()))
            plan = best_plan(Program((), ()), TWO, (), (), by_roads=by_roads)
            self.assertEqual((plan.dealt, plan.cost, plan.rounds), ((), 0, ()))
            plan = best_plan(Program((("a", IK),), ()), TWO, (PARTS,), (("a", whole()),), by_roads=by_roads)
            self.assertEqual((plan.dealt, plan.cost), ((), 8))


class TestTooMany(BestCase):
    # 11 step dealings, and 3 for each of the others.
    STEPS = (("c", "mulsum", "a", "b", ("h", "i", "j", "k", "l")), ("d", "spread", "c", "i", 2),
             ("e", "scale", "d", 2), ("f", "scale", "e", 3), ("g", "scale", "f", 4))
    INPUTS = (("a", (("h", 2), ("i", 2), ("j", 2))), ("b", (("j", 2), ("k", 2), ("l", 2))))

    def parts(self, many, wanted):
        program = Program(self.INPUTS, self.STEPS[:many])
        return {"program": program, "grid": TWO, "given": (whole(), whole()), "wanted": wanted}

    def test_no_tree_with_up_to_300_rows(self):
        parts = self.parts(4, (("f", whole()), ("a", cut("h"))))
        self.assertEqual(many_rows(parts["program"], TWO), 297)
        self.check(parts, False)
        self.check(parts, True)

    def test_no_tree_with_more_rows(self):
        for wanted in [(), (("e", whole()),), (("g", whole()), ("a", whole()))]:
            for by_roads in (False, True):
                with self.assertRaises(TooMany) as caught:
                    best_plan(by_roads=by_roads, **self.parts(5, wanted))
                self.assertEqual(caught.exception.many, 891)

    def test_a_tree_with_more_rows(self):
        parts = self.parts(5, (("g", whole()),))
        self.check(parts, False)
        self.assertEqual(best_plan(by_roads=True, **parts).cost, 0)

    def test_the_number_of_very_many(self):
        steps = [("s0", "mul", "a", "b")] + [(f"s{at}", "scale", f"s{at - 1}", 2) for at in range(1, 5)]
        program = Program((("a", IK), ("b", (("j", 2), ("k", 2)))), steps)
        with self.assertRaises(TooMany) as caught:
            best_plan(program, SQUARE, (whole(), whole()), ())
        self.assertEqual(caught.exception.many, 37 ** 5)

    def test_just_more(self):
        steps = (("c", "mul", "a", "b"), ("d", "sum", "c", ("h", "i")), ("e", "sum", "d", ("j",)),
                 ("f", "sum", "e", ()))
        program = Program((("a", (("h", 2), ("i", 2))), ("b", (("j", 2),))), steps)
        self.assertEqual(many_rows(program, TWO), 7 * 7 * 3)
        program = Program(program.inputs, (*steps, ("g", "scale", "a", 2)))
        self.assertEqual(many_rows(program, TWO), 735)
        with self.assertRaises(TooMany) as caught:
            best_plan(program, TWO, (whole(), whole()), ())
        self.assertEqual(caught.exception.many, 735)


class TestArguments(BestCase):
    def test_lists_names_and_asked_twice(self):
        for number in range(12):
            parts = any_tree(number)
            expected = best_plan(**parts)
            lists = {name: listed(value) for name, value in parts.items()}
            before = {name: listed(value) for name, value in lists.items()}
            for _ in range(2):
                found = best_plan(wanted=lists["wanted"], given=lists["given"], grid=parts["grid"],
                                  program=parts["program"], by_roads=False)
                self.assertIs(type(found), Plan)
                self.assertEqual((found.dealt, found.cost, found.wanted, found.given),
                                 (expected.dealt, expected.cost, parts["wanted"], parts["given"]))
            self.assertEqual(lists, before)
            lists["wanted"].clear()
            lists["given"].clear()
            self.assertEqual((found.wanted, found.given), (parts["wanted"], parts["given"]))

    def test_by_roads_is_passed_by_its_name_only(self):
        with self.assertRaises(TypeError):
            best_plan(PRODUCT, TWO, (whole(), whole()), (), True)

    def test_the_largest_in_good_time(self):
        start = time.process_time()
        for number in range(8):
            for by_roads in (False, True):
                parts = any_tree(number, steps=5, inputs=4, grid=SQUARE)
                plan = best_plan(by_roads=by_roads, **parts)
                self.assertEqual(len(plan.dealt), len(parts["program"].steps))
                parts = any_tree(number, steps=5, inputs=4, sides=3, cells=30, grid=Grid((("x", 4),)))
                best_plan(by_roads=by_roads, **parts)
        self.assertLess(time.process_time() - start, 20)

    def test_dealings_of_what_is_made_are_told_apart(self):
        # Summing along the cut side leaves parts, and leading them away costs as much as leading the operand.
        program = Program((("a", (("i", 4),)),), (("b", "sum", "a", ("i",)),))
        plan = best_plan(program, Grid((("x", 4),)), (cut("i"),), (("b", PARTS),))
        self.assertEqual([key(dealing) for dealing in plan.dealt], [key(cut("i"))])
        self.assertEqual(plan.cost, 0)


if __name__ == "__main__":
    unittest.main()
