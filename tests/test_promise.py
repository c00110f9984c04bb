"""The main promise of the overview, over the whole program."""

import itertools
import unittest

from any_plans import PLAN_GRIDS, ROAD_GRIDS, all_step_dealings, any_plan, any_tree, many_rows
from any_programs import Dice, any_array, any_arrays, any_program
from brute import whole
from dealtarrays.arrays import Array
from dealtarrays.audits import faults, is_due
from dealtarrays.exchanges import numbers_sent
from dealtarrays.grids import Dealing, Grid, dealings
from dealtarrays.memory import best_plan_within, most_held
from dealtarrays.plain import run_plain
from dealtarrays.planners import best_plan
from dealtarrays.plans import Plan, piece_rounds
from dealtarrays.programs import Program
from dealtarrays.runs import Run
from dealtarrays.slopes import slopes
from dealtarrays.texts import read_program, write_program
from dealtarrays.tidy import for_each, split_program, tidied
from plan_model import any_deed

TWO = Grid((("x", 2),))


class PromiseCase(unittest.TestCase):
    def run_drawn(self, plan, arrays, number, deeds=150):
        """A run in a drawn order of letters, with drawn falls, as long as letters are sent again."""
        run, dice = Run(plan, arrays), Dice(number + 9)
        unlike = set()
        for _ in range(deeds):
            deed, at = any_deed(dice, plan.grid.many, len(run))
            getattr(run, deed)(at)
            unlike.update(run.letters())
        # Now all is sent again and again, in drawn orders, and nobody waits for ever.
        for _ in range(20 * (len(plan.rounds) + 1)):
            if run.is_done():
                break
            for machine in range(plan.grid.many):
                run.post(machine)
            unlike.update(run.letters())
            while len(run):
                run.deliver(dice.below(len(run)))
        self.check(run, plan, arrays, unlike)

    def check(self, run, plan, arrays, unlike):
        self.assertTrue(run.is_done())
        known = dict(zip(plan.program.names(), run_plain(plan.program, arrays)))
        for name, _ in plan.wanted:
            self.assertEqual(run.joined(name), known[name])
        self.assertEqual((faults(run), run.said, sum(piece_rounds(plan))), ((), plan.cost, plan.cost))
        for machine in range(plan.grid.many):
            run.post(machine)
        self.assertEqual(unlike | set(run.letters()), set(run.letters()))
        told = {(at, machine.number, to): numbers for machine in run.machines
                for (at, to), numbers in machine.stand.told.items()}
        self.assertEqual((set(told), sum(map(len, told.values()))), (set(run.letters()), plan.cost))
        for letter, numbers in list(told.items())[:5]:
            self.assertTrue(is_due(plan, arrays, (*letter, numbers)))


class TestMainPromise(PromiseCase):
    def test_drawn_programs_and_dealings(self):
        for number in range(300, 360):
            parts = any_plan(number, steps=8, by_roads=number % 3 == 0)
            self.run_drawn(Plan(**parts), any_arrays(number, parts["program"]), number)

    def test_on_each_grid(self):
        for at, grid in enumerate(PLAN_GRIDS + [Grid((("a", 2), ("b", 2), ("c", 2))), Grid((("x", 4), ("y", 2)))]):
            for number in range(at, 20 + at, 5):
                parts = any_plan(number, steps=4, grid=grid)
                self.run_drawn(Plan(**parts), any_arrays(number, parts["program"]), number)

    def test_programs_that_slopes_makes(self):
        done = 0
        for number in range(40):
            dice = Dice(number)
            program = any_program(number, inputs=2, steps=3, most_cells=12, most_sides=2)
            name = dice.one_of(program.names()[len(program.inputs):] or program.names())
            other, found = slopes(program, name, "seed")
            if any(len(other.sides_of(each)) > 3 for each in other.names()):
                continue
            grid = dice.one_of(PLAN_GRIDS)
            wanted = [each for each in sorted(set(found) - {None})] + [program.names()[-1]]
            plan = Plan(
                other, grid, [dice.one_of(dealings(sides, grid)) for _, sides in other.inputs],
                [dice.one_of(all_step_dealings(other, at, grid)) for at in range(len(other.steps))],
                [(each, dice.one_of(dealings(other.sides_of(each), grid))) for each in dict.fromkeys(wanted)])
            arrays = [any_array(dice, sides) for _, sides in other.inputs]
            self.run_drawn(plan, arrays, number)
            done += 1
        self.assertGreater(done, 25)

    def test_planned_programs(self):
        for number in range(30):
            by_roads = number % 2 == 1
            parts = any_tree(number, steps=3, grid=ROAD_GRIDS[number % 3])
            plan = best_plan(by_roads=by_roads, **parts)
            self.run_drawn(plan, any_arrays(number, parts["program"]), number, 60)
            dice = Dice(number)
            for _ in range(5):
                row = [dice.one_of(all_step_dealings(parts["program"], at, parts["grid"]))
                       for at in range(len(plan.dealt))]
                self.assertGreaterEqual(Plan(dealt=row, by_roads=by_roads, **parts).cost, plan.cost)
            if many_rows(parts["program"], parts["grid"]) <= 300:
                within = best_plan_within(most=max(most_held(plan)), **parts)
                self.assertGreaterEqual(within.cost, best_plan(**parts).cost)
                self.run_drawn(within, any_arrays(number, parts["program"]), number, 30)

    def test_programs_made_of_programs(self):
        for number in range(30):
            dice = Dice(number)
            program = any_program(number, inputs=2, steps=5, most_cells=12, most_sides=2)
            other, found = tidied(read_program(write_program(program)), program.names())
            each = for_each(other, "z", 2, [name for name, _ in other.inputs[:1]])
            first, second = split_program(each, len(each.steps) // 2, ())
            arrays = [any_array(dice, sides) for _, sides in each.inputs]
            known = dict(zip(each.names(), run_plain(each, arrays)))
            self.assertEqual(len(found), len(program.names()))
            for part in (each, first, second):
                grid = dice.one_of(PLAN_GRIDS)
                plan = Plan(
                    part, grid, [dice.one_of(dealings(sides, grid)) for _, sides in part.inputs],
                    [dice.one_of(all_step_dealings(part, at, grid)) for at in range(len(part.steps))],
                    [(name, whole()) for name in part.names()])
                own = [known[name] for name, _ in part.inputs]
                self.run_drawn(plan, own, number, 40)
                run = Run(plan, own)
                run.calm()
                for name in part.names():
                    self.assertEqual(run.joined(name), known[name])

    def test_all_orders_of_the_letters_of_a_small_plan(self):
        program = Program((("a", (("i", 3),)),), (("b", "sum", "a", ("i",)),))
        blocks = Dealing((("i", "blocks", "x"),), ())
        plan = Plan(program, Grid((("x", 3),)), (blocks,), (blocks,), (("b", whole()), ("a", whole())))
        array = Array((("i", 3),), (3, 4, 5))
        first = Run(plan, (array,))
        for machine in range(3):
            first.post(machine)
        self.assertEqual(len(first), 6)
        for order in itertools.permutations(first.letters()):
            run = Run(plan, (array,))
            for machine in range(3):
                run.post(machine)
            for letter in order:
                self.assertTrue(run.deliver(run.letters().index(letter)))
            run.calm()
            self.assertEqual((run.joined("b").cells, run.joined("a").cells, run.said), ((12,), (3, 4, 5), 12))


class TestExamplesOfTheOverview(unittest.TestCase):
    def test_a_product(self):
        program = Program((("a", (("i", 2), ("k", 2))), ("b", (("j", 2), ("k", 2)))),
                          (("c", "mulsum", "a", "b", ("k",)),))
        a = Array((("i", 2), ("k", 2)), (1, 2, 3, 4))
        b = Array((("j", 2), ("k", 2)), (5, 7, 6, 8))
        self.assertEqual(run_plain(program, (a, b))[2].cells, (19, 22, 43, 50))

    def test_an_exchange(self):
        blocks = Dealing((("i", "blocks", "x"),), ())
        self.assertEqual(numbers_sent((("i", 2), ("j", 2)), Dealing((), ("x",)), blocks, TWO), 4)


if __name__ == "__main__":
    unittest.main()
