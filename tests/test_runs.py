"""Points [23] and [24]: runs, letter by letter."""

import time
import unittest

from any_plans import PLAN_GRIDS, ROAD_GRIDS, any_plan, any_plan_arrays
from any_programs import Dice, any_program
from any_values import ANY_VALUES, listed
from brute import joined, whole
from dealtarrays.arrays import Array
from dealtarrays.errors import BadInput, NoLetter, NoMachine, NoName, NotDone
from dealtarrays.grids import Dealing, Grid, dealings
from dealtarrays.plain import run_plain
from dealtarrays.plans import Plan
from dealtarrays.programs import Program
from dealtarrays.runs import Run
from plan_model import Lockstep, RunModel, any_deed

TWO = Grid((("x", 2),))
THREE = Grid((("x", 3),))
I2 = (("i", 2),)
PARTS = Dealing((), ("x",))


def cut(side, kind="blocks", direction="x"):
    return Dealing(((side, kind, direction),), ())


def do(run, deed, number):
    return getattr(run, deed)(number)


class RunCase(unittest.TestCase):
    def compare(self, run, model, note):
        self.assertEqual(run.letters(), tuple(model.way), note)
        self.assertEqual(len(run), len(model.way), note)
        self.assertEqual([run.round_of(machine) for machine in range(model.many)], model.at, note)
        self.assertIs(run.is_done(), model.is_done(), note)
        self.assertEqual(run.said, model.said(), note)

    def check(self, number, parts, deeds):
        """Drawn deeds on a run and its model, then calm, then what came of it."""
        arrays = any_plan_arrays(number, parts)
        plan = Plan(**parts)
        lockstep = Lockstep(parts, arrays)
        run, model, dice = Run(plan, arrays), RunModel(lockstep), Dice(number + 5)
        self.compare(run, model, number)
        for at in range(deeds):
            deed = any_deed(dice, model.many, len(model.way))
            self.assertIs(do(run, *deed), do(model, *deed), (number, at, deed))
            self.compare(run, model, (number, at, deed))
        self.assertIsNone(run.calm())
        self.check_end(run, plan, arrays, lockstep)

    def check_end(self, run, plan, arrays, lockstep):
        known = dict(zip(plan.program.names(), run_plain(plan.program, arrays)))
        self.assertTrue(run.is_done())
        self.assertEqual((len(run), run.letters()), (0, ()))
        self.assertEqual(run.said, plan.cost)
        for machine in range(plan.grid.many):
            self.assertEqual(run.round_of(machine), len(plan.rounds))
            for name, _ in plan.wanted:
                self.assertEqual(run.piece(machine, name), lockstep.wanted[name][machine])
        for name, dealing in plan.wanted:
            self.assertEqual(run.joined(name), known[name])
            sides = plan.program.sides_of(name)
            self.assertEqual(joined(lockstep.wanted[name], sides, dealing, plan.grid), known[name])


class TestDrawnRuns(RunCase):
    def test_drawn_deeds(self):
        for number in range(60):
            self.check(number, any_plan(number, steps=4), 80)

    def test_drawn_deeds_by_roads(self):
        for number in range(40):
            self.check(number, any_plan(number, steps=4, by_roads=True), 80)

    def test_drawn_deeds_on_each_grid(self):
        for at, grid in enumerate(PLAN_GRIDS):
            for number in range(3):
                self.check(number, any_plan(number + 10 * at, steps=3, grid=grid), 120)

    def test_calm_alone(self):
        for number in range(100, 160):
            self.check(number, any_plan(number, by_roads=number % 2 == 1), 0)


class TestLetters(RunCase):
    """A row of two cells on two machines, first joined, then added up."""

    PROGRAM = Program((("a", I2),), (("b", "scale", "a", 3), ("c", "sum", "b", ("i",))))
    # Round 0 leads a to both machines, round 1 makes b, 2 leads it back, 3 makes c, 4 sums it up.
    PLAN = Plan(PROGRAM, TWO, (cut("i"),), (whole(), cut("i")), (("c", whole()), ("a", cut("i"))))
    ARRAYS = (Array(I2, (4, 5)),)

    def run_of(self):
        return Run(self.PLAN, self.ARRAYS)

    def test_at_the_beginning(self):
        run = self.run_of()
        self.assertEqual([deed[:2] for deed in self.PLAN.rounds],
                         [("send", "a"), ("make", "b"), ("send", "b"), ("make", "c"), ("send", "c")])
        self.assertEqual((run.letters(), len(run), run.is_done()), ((), 0, False))
        self.assertEqual((run.round_of(0), run.round_of(1), run.said), (0, 0, 2))

    def test_letter_by_letter(self):
        run = self.run_of()
        self.assertIsNone(run.post(1))
        self.assertEqual((run.letters(), len(run)), (((0, 1, 0),), 1))
        self.assertIs(run.deliver(0), True)
        # Nothing is sent in round 2, and machine 0 comes to round 4, where it says its part.
        self.assertEqual((run.round_of(0), run.round_of(1), run.said, len(run)), (4, 0, 3, 0))
        run.post(0)
        self.assertEqual(run.letters(), ((0, 0, 1), (4, 0, 1)))
        # The letter of the later round is got ahead of that of the present one.
        self.assertIs(run.deliver(1), True)
        self.assertEqual((run.round_of(1), run.letters()), (0, ((0, 0, 1),)))
        self.assertIs(run.deliver(0), True)
        self.assertEqual((run.round_of(0), run.round_of(1), run.is_done()), (4, 5, False))
        self.assertEqual(run.piece(1, "c"), ((), (27,)))
        run.post(1)
        self.assertEqual(run.letters(), ((0, 1, 0), (4, 1, 0)))
        self.assertIs(run.deliver(0), False)
        self.assertIs(run.deliver(0), True)
        self.assertTrue(run.is_done())
        self.assertEqual((run.piece(0, "c"), run.joined("c")), (((), (27,)), Array((), (27,))))
        self.assertEqual((run.said, self.PLAN.cost), (4, 4))

    def test_all_that_was_said_is_posted_again(self):
        run = self.run_of()
        run.post(0)
        run.post(1)
        run.post(0)
        self.assertEqual(run.letters(), ((0, 0, 1), (0, 1, 0), (0, 0, 1)))
        run.deliver(1)
        run.post(0)
        self.assertEqual(run.letters(), ((0, 0, 1), (0, 0, 1), (0, 0, 1), (4, 0, 1)))
        self.assertEqual([run.deliver(0) for _ in range(4)], [True, False, False, True])
        self.assertEqual(run.said, 4)

    def test_double_and_lose(self):
        run = self.run_of()
        run.post(0)
        run.post(1)
        self.assertIsNone(run.double(0))
        self.assertEqual(run.letters(), ((0, 0, 1), (0, 1, 0), (0, 0, 1)))
        self.assertIsNone(run.lose(0))
        self.assertEqual(run.letters(), ((0, 1, 0), (0, 0, 1)))
        self.assertEqual((run.round_of(0), run.round_of(1)), (0, 0))
        run.double(1)
        run.double(0)
        self.assertEqual(run.letters(), ((0, 1, 0), (0, 0, 1), (0, 0, 1), (0, 1, 0)))
        self.assertIs(run.deliver(2), True)
        self.assertEqual(run.letters(), ((0, 1, 0), (0, 0, 1), (0, 1, 0)))
        self.assertIs(run.deliver(1), False)
        while len(run):
            run.lose(0)
        self.assertEqual((run.round_of(0), run.round_of(1)), (0, 4))
        run.calm()
        self.assertEqual((run.joined("c").cells, run.said), ((27,), 4))

    def test_letters_to_many_ascend_by_receiver(self):
        plan = Plan(Program((("a", (("i", 3),)),), ()), THREE, (cut("i"),), (), (("a", whole()),))
        run = Run(plan, (Array((("i", 3),), (1, 2, 3)),))
        run.post(1)
        run.post(0)
        self.assertEqual(run.letters(), ((0, 1, 0), (0, 1, 2), (0, 0, 1), (0, 0, 2)))
        # One of two letters is not enough.
        run.deliver(0)
        self.assertEqual((run.round_of(0), run.said), (0, 6))
        run.post(2)
        run.deliver(3)
        self.assertEqual(run.round_of(0), 1)

    def test_only_those_that_want_something_get_a_letter(self):
        plan = Plan(Program((("a", (("i", 2),)),), ()), THREE, (cut("i"),), (), (("a", PARTS),))
        run = Run(plan, (Array(I2, (1, 2)),))
        for machine in range(3):
            run.post(machine)
        # Machine 0 alone gets more than zeros; machine 2 has nothing.
        self.assertEqual(run.letters(), ((0, 1, 0),))
        self.assertEqual([run.round_of(machine) for machine in range(3)], [0, 1, 1])
        self.assertEqual([run.piece(machine, "a") for machine in (1, 2)], [(((0, 1),), (0, 0))] * 2)
        with self.assertRaises(NotDone):
            run.piece(0, "a")
        run.deliver(0)
        self.assertEqual(run.piece(0, "a"), (((0, 1),), (1, 2)))

    def test_where_nothing_is_sent_all_are_done_at_once(self):
        plan = Plan(self.PROGRAM, TWO, (whole(),), (cut("i"), cut("i")), (("c", PARTS), ("b", cut("i"))))
        run = Run(plan, self.ARRAYS)
        self.assertEqual((run.is_done(), run.said, plan.cost), (True, 0, 0))
        self.assertEqual(run.joined("c").cells, (27,))
        run.post(0)
        self.assertEqual(run.letters(), ())
        empty = Run(Plan(Program((), ()), TWO, (), (), ()), ())
        self.assertEqual((empty.is_done(), empty.round_of(0), len(empty), empty.said), (True, 0, 0, 0))

    def test_an_operand_that_is_used_twice(self):
        program = Program((("a", I2),), (("b", "mul", "a", "a"),))
        plan = Plan(program, TWO, (cut("i"),), (whole(),), (("b", whole()), ("a", whole())))
        run = Run(plan, self.ARRAYS)
        run.post(0)
        run.deliver(0)
        # The second road of a begins with the piece that was given, too.
        self.assertEqual((run.round_of(1), run.said), (1, 3))
        run.calm()
        self.assertEqual((run.joined("b").cells, run.joined("a").cells, run.said), ((16, 25), (4, 5), 6))


class TestFalls(RunCase):
    PROGRAM, PLAN, ARRAYS = TestLetters.PROGRAM, TestLetters.PLAN, TestLetters.ARRAYS

    def test_back_to_the_beginning(self):
        run = Run(self.PLAN, self.ARRAYS)
        run.post(0)
        run.post(1)
        run.deliver(1)
        self.assertEqual(run.round_of(0), 4)
        self.assertIsNone(run.fall(0))
        self.assertEqual((run.round_of(0), run.said, run.letters()), (0, 3, ((0, 0, 1),)))
        run.post(0)
        self.assertEqual(run.letters(), ((0, 0, 1), (0, 0, 1)))
        run.post(1)
        # What it had got it has to get again.
        self.assertIs(run.deliver(2), True)
        self.assertEqual(run.said, 3)

    def test_back_to_what_was_kept(self):
        run = Run(self.PLAN, self.ARRAYS)
        run.post(1)
        run.deliver(0)
        self.assertIsNone(run.keep(0))
        run.post(0)
        run.deliver(0)
        run.post(1)
        run.deliver(2)
        run.deliver(0)
        self.assertEqual((run.round_of(0), run.round_of(1)), (5, 5))
        run.fall(0)
        self.assertEqual((run.round_of(0), run.is_done()), (4, False))
        run.fall(0)
        self.assertEqual(run.round_of(0), 4)
        run.fall(1)
        self.assertEqual(run.round_of(1), 0)
        run.calm()
        self.assertEqual((run.joined("c").cells, run.said), ((27,), 4))

    def test_what_was_got_ahead_is_kept_too(self):
        run = Run(self.PLAN, self.ARRAYS)
        run.post(1)
        run.deliver(0)
        run.post(0)
        run.deliver(1)
        run.keep(1)
        run.fall(1)
        self.assertEqual(run.letters(), ((0, 0, 1),))
        run.deliver(0)
        self.assertEqual(run.round_of(1), 5)

    def test_the_last_keeping_counts(self):
        run = Run(self.PLAN, self.ARRAYS)
        run.keep(0)
        run.post(1)
        run.deliver(0)
        run.keep(0)
        run.fall(0)
        self.assertEqual(run.round_of(0), 4)
        run.calm()
        run.keep(0)
        run.fall(0)
        self.assertTrue(run.is_done())
        run.fall(1)
        self.assertFalse(run.is_done())
        self.assertEqual((run.round_of(0), run.round_of(1)), (5, 0))
        run.calm()
        self.assertTrue(run.is_done())

    def test_a_done_machine_that_fell_tells_its_letters_again(self):
        run = Run(self.PLAN, self.ARRAYS)
        run.calm()
        for _ in range(3):
            run.fall(0)
            run.fall(1)
            self.assertEqual((run.round_of(0), run.round_of(1)), (0, 0))
            run.calm()
            self.assertEqual((run.joined("c").cells, run.said), ((27,), 4))

    def test_letters_stay_on_the_way(self):
        run = Run(self.PLAN, self.ARRAYS)
        run.post(0)
        run.post(1)
        before = run.letters()
        run.fall(0)
        run.fall(1)
        self.assertEqual(run.letters(), before)


class TestErrors(RunCase):
    PLAN, ARRAYS = TestLetters.PLAN, TestLetters.ARRAYS

    def stand(self, run):
        return run.letters(), len(run), run.round_of(0), run.round_of(1), run.said, run.is_done()

    def test_arrays_with_other_sides(self):
        program = Program((("a", I2), ("b", ()), ("c", I2)), ())
        plan = Plan(program, TWO, (whole(),) * 3, (), ())
        good = [Array(I2, (1, 2)), Array((), (3,)), Array(I2, (4, 5))]
        self.assertTrue(Run(plan, good).is_done())
        for bad, number in [((0,), 0), ((1,), 1), ((2,), 2), ((1, 2), 1), ((0, 1, 2), 0)]:
            arrays = [Array((("i", 3),), (1, 2, 3)) if at in bad else array for at, array in enumerate(good)]
            with self.assertRaises(BadInput) as caught:
                Run(plan, arrays)
            self.assertEqual(caught.exception.number, number)

    def test_what_is_no_machine(self):
        run = Run(self.PLAN, self.ARRAYS)
        run.post(0)
        before = self.stand(run)
        for machine in [-1, 2, 3, -2, *ANY_VALUES]:
            if machine in (0, 1) and type(machine) is int:
                continue
            for call in (run.post, run.round_of, run.keep, run.fall, lambda number: run.piece(number, "c"),
                         lambda number: run.piece(number, "z")):
                with self.assertRaises(NoMachine) as caught:
                    call(machine)
                self.assertIs(caught.exception.machine, machine)
                self.assertEqual(self.stand(run), before)

    def test_what_is_no_letter(self):
        run = Run(self.PLAN, self.ARRAYS)
        for many in range(3):
            before = self.stand(run)
            for number in [-1, many, many + 1, -2, *ANY_VALUES]:
                if type(number) is int and 0 <= number < many:
                    continue
                for call in (run.deliver, run.double, run.lose):
                    with self.assertRaises(NoLetter) as caught:
                        call(number)
                    self.assertIs(caught.exception.number, number)
                    self.assertEqual(self.stand(run), before)
            run.post(many % 2)

    def test_what_is_not_wanted(self):
        run = Run(self.PLAN, self.ARRAYS)
        for done in (False, True):
            for name in ["b", "i", "z", "", *ANY_VALUES]:
                if name in ("a", "c"):
                    continue
                for call in (lambda name: run.piece(0, name), run.joined):
                    with self.assertRaises(NoName) as caught:
                        call(name)
                    self.assertIs(caught.exception.name, name)
            run.calm()

    def test_who_is_not_done(self):
        run = Run(self.PLAN, self.ARRAYS)
        for machine in (0, 1):
            with self.assertRaises(NotDone) as caught:
                run.piece(machine, "a")
            self.assertEqual(caught.exception.machine, machine)
        with self.assertRaises(NotDone) as caught:
            run.joined("a")
        self.assertEqual(caught.exception.machine, 0)
        run.post(0)
        run.post(1)
        run.deliver(1)
        run.post(0)
        run.deliver(0)
        run.post(1)
        run.deliver(len(run) - 1)
        self.assertEqual((run.round_of(0), run.round_of(1)), (5, 4))
        with self.assertRaises(NotDone) as caught:
            run.joined("c")
        self.assertEqual(caught.exception.machine, 1)
        self.assertEqual(run.piece(0, "c"), ((), (27,)))

    def test_the_order_of_the_errors(self):
        run = Run(self.PLAN, self.ARRAYS)
        with self.assertRaises(NoMachine):
            run.piece(2, "z")
        with self.assertRaises(NoName):
            run.piece(0, "z")
        with self.assertRaises(NoName):
            run.joined("b")


class TestArguments(RunCase):
    def test_by_their_names_and_lists(self):
        run = Run(arrays=list(TestLetters.ARRAYS), plan=TestLetters.PLAN)
        run.post(machine=0)
        run.double(number=0)
        run.lose(number=1)
        self.assertIs(run.deliver(number=0), True)
        run.keep(machine=0)
        run.fall(machine=1)
        self.assertEqual(run.round_of(machine=0), 0)
        run.calm()
        self.assertEqual(run.joined(name="c").cells, (27,))
        self.assertEqual(run.piece(name="a", machine=1), (((1,),), (5,)))

    def test_arguments_are_not_changed_and_later_changes_have_no_effect(self):
        arrays = list(TestLetters.ARRAYS)
        run = Run(TestLetters.PLAN, arrays)
        self.assertEqual(arrays, list(TestLetters.ARRAYS))
        arrays.clear()
        run.calm()
        self.assertEqual(run.joined("c").cells, (27,))

    def test_runs_of_one_plan_do_not_meet(self):
        first, second = Run(TestLetters.PLAN, TestLetters.ARRAYS), Run(TestLetters.PLAN, TestLetters.ARRAYS)
        first.calm()
        self.assertEqual((second.round_of(0), second.said, second.letters()), (0, 2, ()))
        other = Run(TestLetters.PLAN, (Array(I2, (0, 1)),))
        other.calm()
        self.assertEqual((first.joined("c").cells, other.joined("c").cells), ((27,), (3,)))

    def test_kinds_of_values(self):
        for number in range(8):
            parts = any_plan(number)
            run = Run(Plan(**{name: listed(value) for name, value in parts.items()}), any_plan_arrays(number, parts))
            run.post(0)
            self.assertIs(type(run.letters()), tuple)
            for letter in run.letters():
                self.assertEqual([type(part) for part in letter], [int, int, int])
            self.assertEqual([type(len(run)), type(run.round_of(0)), type(run.said)], [int, int, int])
            self.assertIs(type(run.is_done()), bool)
            run.calm()
            for name, _ in parts["wanted"]:
                rows, cells = run.piece(0, name)
                self.assertEqual([type(run.piece(0, name)), type(rows), type(cells)], [tuple] * 3)
                self.assertTrue(all(type(row) is tuple for row in rows))

    def test_a_run_is_unlike_anything_else(self):
        run = Run(TestLetters.PLAN, TestLetters.ARRAYS)
        for other in (None, 0, (), [], "a", TestLetters.PLAN):
            self.assertIs(run == other, False)
            self.assertIs(run != other, True)

    def test_the_largest_in_good_time(self):
        start = time.process_time()
        for grid, by_roads in [(PLAN_GRIDS[4], False), (ROAD_GRIDS[2], True)]:
            if by_roads:
                program = any_program(2, steps=40, most_cells=9, most_sides=2)
            else:
                program = any_program(7, steps=40, most_cells=30, most_sides=3)
            dice = Dice(9)
            given = [dice.one_of(dealings(sides, grid)) for _, sides in program.inputs]
            wanted = [(name, dice.one_of(dealings(program.sides_of(name), grid))) for name in program.names()]
            plan = Plan(program, grid, given, [whole()] * 40, wanted, by_roads=by_roads)
            arrays = any_plan_arrays(1, {"program": program})
            run = Run(plan, arrays)
            run.calm()
            for machine in range(grid.many):
                run.fall(machine)
            run.calm()
            self.assertEqual(run.said, plan.cost)
            self.assertEqual([run.joined(name) for name, _ in wanted], list(run_plain(program, arrays)))
        self.assertLess(time.process_time() - start, 20)


if __name__ == "__main__":
    unittest.main()
