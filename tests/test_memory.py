"""Point [29]: how many cells the machines hold, and plans within a bound."""

import time
import unittest

from any_plans import PLAN_GRIDS, ROAD_GRIDS, any_plan, any_tree, many_rows
from any_programs import any_program
from any_values import listed
from brute import all_places, rows_of, whole
from dealtarrays.errors import TooMany
from dealtarrays.grids import Dealing, Grid, dealings
from dealtarrays.memory import best_plan_within, most_held
from dealtarrays.makes import made_dealing, operand_dealing
from dealtarrays.plans import Plan
from dealtarrays.programs import Program, operands
from test_planners import all_rows, cuts_of, without_dealt

TWO = Grid((("x", 2),))
I4 = (("i", 4),)
PARTS = Dealing((), ("x",))


def cut(side, kind="blocks", direction="x"):
    return Dealing(((side, kind, direction),), ())


class Holdings:
    """The pieces of a plan with the moments at which they are there, read from its rounds one by one."""

    def __init__(self, plan):
        self.plan, self.at = plan, 0
        program = plan.program
        # Of what was given or made: name, dealing, the first moment, and the last moment so far.
        self.own = {name: [name, dealing, 0, None] for (name, _), dealing in zip(program.inputs, plan.given)}
        self.rows = list(self.own.values())
        for number, step in enumerate(program.steps):
            ends = [self.road(name, operand_dealing(program, number, plan.dealt[number], at))
                    for at, name in enumerate(operands(step))]
            assert plan.rounds[self.at] == ("make", step[0])
            for row in ends:
                row[3] = self.at
            self.at += 1
            self.own[step[0]] = [step[0], made_dealing(program, number, plan.dealt[number]), self.at, None]
            self.rows.append(self.own[step[0]])
        wanted = [self.road(name, dealing) for name, dealing in plan.wanted]
        assert self.at == len(plan.rounds)
        for row in wanted:
            row[3] = self.at

    def road(self, name, other):
        row = self.own[name]
        while row[1] != other:
            kind, sent, before, after = self.plan.rounds[self.at]
            assert (kind, sent, before) == ("send", name, row[1])
            row[3] = self.at
            self.at += 1
            row = [name, after, self.at, None]
            self.rows.append(row)
        return row

    def most(self):
        plan = self.plan
        found = []
        for machine in range(plan.grid.many):
            sizes = [len(all_places(rows_of(dealing, plan.program.sides_of(name), plan.grid, machine)))
                     for name, dealing, _, _ in self.rows]
            found.append(max(
                sum(size for size, (_, _, first, last) in zip(sizes, self.rows) if last is not None
                    and first <= moment <= last)
                for moment in range(len(plan.rounds) + 1)))
        return tuple(found)


class TestMostHeld(unittest.TestCase):
    def test_drawn_plans(self):
        for number in range(80):
            plan = Plan(**any_plan(number, steps=2 + number % 5))
            self.assertEqual(most_held(plan), Holdings(plan).most(), number)

    def test_drawn_plans_by_roads(self):
        for number in range(60):
            plan = Plan(**any_plan(number, by_roads=True))
            self.assertEqual(most_held(plan), Holdings(plan).most(), number)

    def held(self, steps, given, dealt, wanted, by_roads=False, grid=TWO):
        program = Program((("a", I4), ("b", I4))[:len(given)], steps)
        return most_held(Plan(program, grid, given, dealt, wanted, by_roads=by_roads))

    def test_what_is_given(self):
        # Never used, used, and wanted; machine 1 of three has one cell more than machine 2.
        self.assertEqual(self.held((), (whole(),), (), ()), (0, 0))
        self.assertEqual(self.held((), (whole(),), (), (("a", whole()),)), (4, 4))
        self.assertEqual(self.held((), (cut("i"), whole()), (), (("a", cut("i")),)), (2, 2))
        three = Grid((("x", 3),))
        self.assertEqual(self.held((), (cut("i"),), (), (("a", cut("i")),), grid=three), (2, 2, 0))
        turns = cut("i", "turns")
        self.assertEqual(self.held((), (turns,), (), (("a", turns),), grid=three), (2, 1, 1))

    def test_what_is_made(self):
        step = (("c", "scale", "a", 2),)
        # At the beginning of its round there is only the operand, behind it only what was made, if it is wanted.
        self.assertEqual(self.held(step, (cut("i"),), (cut("i"),), ()), (2, 2))
        self.assertEqual(self.held(step, (cut("i"),), (cut("i"),), (("c", cut("i")),)), (2, 2))
        self.assertEqual(self.held(step, (cut("i"),), (cut("i"),), (("a", cut("i")),)), (2, 2))
        self.assertEqual(self.held(step, (cut("i"),), (cut("i"),), (("a", cut("i")), ("c", cut("i")))), (4, 4))

    def test_what_is_exchanged(self):
        # Behind the exchange what was given is gone, if nothing else uses it.
        self.assertEqual(self.held((), (cut("i"),), (), (("a", whole()),)), (4, 4))
        step = (("c", "scale", "a", 2),)
        self.assertEqual(self.held(step, (cut("i"),), (whole(),), ()), (4, 4))
        # Now it is there until the second road begins, which is behind the step.
        self.assertEqual(self.held(step, (cut("i"),), (whole(),), (("a", whole()),)), (6, 6))
        # The end of the first road is gone when the step is made.
        self.assertEqual(self.held(step, (cut("i"),), (whole(),), (("a", whole()), ("c", whole()))), (8, 8))

    def test_both_operands(self):
        step = (("c", "add", "a", "b"),)
        self.assertEqual(self.held(step, (cut("i"), cut("i")), (cut("i"),), ()), (4, 4))
        self.assertEqual(self.held(step, (cut("i"), cut("i")), (whole(),), ()), (8, 8))
        # a is led first: then there are 4 of its cells, and 2 of b.
        self.assertEqual(self.held(step, (whole(), cut("i")), (whole(),), ()), (8, 8))
        twice = (("c", "add", "a", "a"),)
        self.assertEqual(self.held(twice, (cut("i"),), (cut("i"),), ()), (2, 2))
        # Both roads bring it once.
        self.assertEqual(self.held(twice, (cut("i"),), (whole(),), ()), (8, 8))

    def test_used_several_times(self):
        steps = (("c", "scale", "a", 2), ("d", "scale", "a", 3), ("e", "add", "c", "d"))
        row = (cut("i"),) * 3
        self.assertEqual(self.held(steps, (cut("i"),), row, ()), (4, 4))
        self.assertEqual(self.held(steps, (cut("i"),), row, (("a", cut("i")),)), (6, 6))
        self.assertEqual(self.held(steps, (cut("i"),), row, (("c", cut("i")), ("e", cut("i")))), (4, 4))

    def test_parts_are_cells_too(self):
        program = Program((("a", I4),), (("s", "sum", "a", ("i",)),))
        plan = Plan(program, TWO, (PARTS,), (cut("i"),), (("s", PARTS), ("a", PARTS)))
        # At the round of s there are 4 parts of a and 2 cells of its blocks.
        self.assertEqual(most_held(plan), (6, 6))

    def test_by_roads(self):
        four = Grid((("x", 4),))
        self.assertEqual(self.held((), (PARTS,), (), (("a", whole()),), grid=four), (4, 4, 4, 4))
        program = Program((("a", I4),), ())
        plan = Plan(program, four, (PARTS,), (), (("a", whole()),), by_roads=True)
        self.assertEqual(len(plan.rounds), 2)
        self.assertEqual(most_held(plan), (4, 4, 4, 4))
        step = (("c", "scale", "a", 2),)
        self.assertEqual(self.held(step, (PARTS,), (whole(),), (("a", PARTS),), by_roads=True, grid=four), (8,) * 4)

    def test_nothing(self):
        plan = Plan(Program((), ()), TWO, (), (), ())
        self.assertEqual(most_held(plan), (0, 0))

    def test_kinds_of_values(self):
        plan = Plan(**any_plan(1))
        rounds = plan.rounds
        found = most_held(plan=plan)
        self.assertIs(type(found), tuple)
        self.assertTrue(all(type(many) is int for many in found))
        self.assertEqual((len(found), plan.rounds), (plan.grid.many, rounds))

    def test_forty_steps_in_good_time(self):
        start = time.process_time()
        program = any_program(7, steps=40, most_cells=30, most_sides=3)
        grid = PLAN_GRIDS[4]
        wanted = [(name, dealings(program.sides_of(name), grid)[-1]) for name in program.names()]
        given = [dealings(sides, grid)[-1] for _, sides in program.inputs]
        plan = Plan(program, grid, given, [whole()] * 40, wanted)
        self.assertEqual(most_held(plan), Holdings(plan).most())
        self.assertLess(time.process_time() - start, 10)


class TestBestPlanWithin(unittest.TestCase):
    def expected(self, parts, most):
        """The first of the cheapest plans that keep the bound, and None if there is none."""
        best = None
        for row in sorted(all_rows(parts["program"], parts["grid"]), key=cuts_of):
            plan = Plan(dealt=row, **parts)
            if max(Holdings(plan).most()) <= most and (best is None or plan.cost < best.cost):
                best = plan
        return best

    def check(self, parts):
        bounds, costs = [], set()
        for row in all_rows(parts["program"], parts["grid"]):
            bounds.append(max(Holdings(Plan(dealt=row, **parts)).most()))
        for most in sorted({*bounds, min(bounds) - 1, -1, 999}):
            found, best = best_plan_within(most=most, **parts), self.expected(parts, most)
            if best is None:
                self.assertIsNone(found)
            else:
                self.assertEqual((found.cost, cuts_of(found.dealt)), (best.cost, cuts_of(best.dealt)))
                self.assertEqual((found.wanted, found.given), (parts["wanted"], parts["given"]))
                self.assertIs(found.by_roads, False)
                costs.add(found.cost)
        return len(costs)

    def test_drawn_programs_and_trees(self):
        checked = several = 0
        # With those behind the first ones a bound makes plans cost more, which is seldom so.
        for number in [*range(40), 79, 82, 157, 175, 250, 266, 267, 299]:
            grid = ROAD_GRIDS[number % 3]
            parts = any_tree(number, steps=1 + number % 3, grid=grid) if number % 2 else without_dealt(
                any_plan(number, steps=1 + number % 3, by_roads=True, grid=grid))
            if many_rows(parts["program"], grid) <= 100:
                several += self.check(parts) > 1
                checked += 1
        self.assertGreater(checked, 30)
        self.assertGreater(several, 5)

    def test_a_bound_makes_it_cost_more(self):
        # Made of the whole it costs nothing but holds 8 cells; leading the cut c away costs 4.
        program = Program((("a", I4),), (("b", "scale", "a", 2), ("c", "add", "a", "b")))
        parts = {"program": program, "grid": TWO, "given": (whole(),), "wanted": (("c", whole()),)}
        costs = {}
        for most in range(0, 10):
            plan = best_plan_within(most=most, **parts)
            costs[most] = plan and plan.cost
        self.assertEqual(costs[9], 0)
        self.assertEqual(costs[3], None)
        self.assertEqual(sorted({cost for cost in costs.values() if cost is not None}), [0, 4])
        self.assertEqual([costs[most] for most in (5, 6, 7, 8)], [None, 4, 4, 0])

    def test_too_many_for_trees_as_well(self):
        steps = tuple((f"s{at}", "scale", f"s{at - 1}" if at else "a", 2) for at in range(4))
        parts = {"program": Program((("a", (("i", 2), ("k", 2))),), steps), "grid": TWO, "given": (whole(),)}
        for wanted in [(), (("s3", whole()),), (("s3", whole()), ("a", whole()))]:
            with self.assertRaises(TooMany) as caught:
                best_plan_within(wanted=wanted, most=100, **parts)
            self.assertEqual(caught.exception.many, 625)
        parts["program"] = Program(parts["program"].inputs, steps[:3])
        self.assertEqual(best_plan_within(wanted=(), most=100, **parts).cost, 0)

    def test_arguments(self):
        program = Program((("a", I4),), (("b", "scale", "a", 2),))
        given, wanted = [cut("i")], [["b", whole()]]
        plan = best_plan_within(most=4, wanted=wanted, given=given, grid=TWO, program=program)
        self.assertIs(type(plan), Plan)
        self.assertEqual((given, wanted), ([cut("i")], [["b", whole()]]))
        given.clear()
        wanted.clear()
        self.assertEqual((plan.given, plan.wanted, plan.cost), ((cut("i"),), (("b", whole()),), 4))
        self.assertEqual(listed(plan.wanted), [["b", whole()]])
        with self.assertRaises(TypeError):
            best_plan_within(program, TWO, (cut("i"),), (), 4, by_roads=True)

    def test_the_largest_in_good_time(self):
        start = time.process_time()
        steps = (("c", "mulsum", "a", "b", ("h", "i", "j", "k", "l")), ("d", "spread", "c", "i", 2),
                 ("e", "scale", "d", 2), ("f", "scale", "e", 3))
        inputs = (("a", (("h", 2), ("i", 3), ("j", 4))), ("b", (("j", 4), ("k", 2), ("l", 3))))
        program, grid = Program(inputs, steps), Grid((("x", 4),))
        plan = best_plan_within(program, grid, (PARTS, PARTS), (("f", whole()),), 100)
        self.assertEqual(plan.cost, self.expected(
            {"program": program, "grid": grid, "given": (PARTS, PARTS), "wanted": (("f", whole()),)}, 100).cost)
        self.assertLess(time.process_time() - start, 20)


if __name__ == "__main__":
    unittest.main()
