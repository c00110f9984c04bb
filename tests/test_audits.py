"""Point [25]: audits of runs and of letters."""

import time
import unittest

from any_plans import any_plan, any_plan_arrays
from any_programs import Dice
from any_values import listed
from brute import whole
from dealtarrays.arrays import Array
from dealtarrays.audits import faults, is_due
from dealtarrays.errors import BadInput
from dealtarrays.grids import Dealing, Grid
from dealtarrays.plans import Plan
from dealtarrays.programs import Program
from dealtarrays.runs import Run
from plan_model import Lockstep, any_deed

TWO = Grid((("x", 2),))
I2 = (("i", 2),)
BLOCKS = Dealing((("i", "blocks", "x"),), ())
PROGRAM = Program((("a", I2),), (("b", "scale", "a", 3), ("c", "sum", "b", ("i",))))
PLAN = Plan(PROGRAM, TWO, (BLOCKS,), (whole(), BLOCKS), (("c", whole()), ("a", BLOCKS)))
ARRAYS = (Array(I2, (4, 5)),)


def state(run):
    machines = [(machine.stand.pieces, machine.stand.told, machine.stand.got) for machine in run.machines]
    return run.letters(), [run.round_of(at) for at in range(len(machines))], repr(machines), run.said


class TestFaults(unittest.TestCase):
    def test_none_at_any_moment(self):
        for number in range(50):
            parts = any_plan(number, steps=4, by_roads=number % 3 == 0)
            run, dice = Run(Plan(**parts), any_plan_arrays(number, parts)), Dice(number)
            self.assertEqual(faults(run), ())
            for _ in range(60):
                deed, at = any_deed(dice, parts["grid"].many, len(run))
                getattr(run, deed)(at)
                self.assertEqual(faults(run), (), (number, deed))
            run.calm()
            self.assertEqual(faults(run), ())
            for machine in range(parts["grid"].many):
                run.fall(machine)
                self.assertEqual(faults(run), ())

    def test_nothing_is_changed(self):
        run = Run(PLAN, ARRAYS)
        for deed in [("post", 0), ("post", 1), ("deliver", 0), ("keep", 1), ("deliver", 0), ("post", 0), ("fall", 1)]:
            getattr(run, deed[0])(deed[1])
            before = state(run)
            self.assertIs(type(faults(run)), tuple)
            self.assertEqual(faults(run=run), ())
            self.assertEqual(state(run), before)

    def test_a_letter_of_a_later_round(self):
        for machine in (0, 1):
            run = Run(PLAN, ARRAYS)
            told = run.machines[machine].stand.told
            self.assertEqual(list(told), [(0, 1 - machine)])
            told[1, 0] = (7,)
            self.assertEqual(faults(run), ("round",))
            run.machines[machine].stand.pieces.append(None)
            # Now it is at this round itself.
            self.assertEqual(faults(run), ())

    def test_a_letter_with_other_numbers(self):
        run = Run(PLAN, ARRAYS)
        run.post(0)
        run.deliver(0)
        got = run.machines[1].stand.got
        self.assertEqual(got, {(0, 0): (4,)})
        for numbers in [(5,), (), (4, 4)]:
            got[0, 0] = numbers
            self.assertEqual(faults(run), ("got",))
        got[0, 0] = (4,)
        self.assertEqual(faults(run), ())

    def test_what_a_fallen_sender_has_not_said_is_no_fault(self):
        run = Run(PLAN, ARRAYS)
        run.keep(0)
        run.post(1)
        run.deliver(0)
        run.post(0)
        run.deliver(1)
        run.fall(0)
        self.assertEqual(run.machines[1].stand.got, {(4, 0): (12,)})
        self.assertNotIn((4, 1), run.machines[0].stand.told)
        self.assertEqual(faults(run), ())
        # Which numbers would be right only the sender tells, when it has said the letter again.
        run.machines[1].stand.got[4, 0] = (13,)
        self.assertEqual(faults(run), ())
        run.post(1)
        run.deliver(1)
        self.assertEqual(faults(run), ("got",))

    def test_a_wrong_array(self):
        run = Run(PLAN, ARRAYS)
        run.calm()
        for machine in (0, 1):
            pieces = run.machines[machine].stand.pieces
            right = pieces[PLAN.ends[1]]
            pieces[PLAN.ends[1]] = (right[0], (right[1][0] + 1,))
            self.assertEqual(faults(run), ("piece",))
            pieces[PLAN.ends[1]] = right
            self.assertEqual(faults(run), ())

    def test_all_wrong_alike(self):
        run = Run(PLAN, ARRAYS)
        run.calm()
        for machine in run.machines:
            machine.stand.pieces[PLAN.ends[0]] = ((), (28,))
        self.assertEqual(run.joined("c").cells, (28,))
        self.assertEqual(faults(run), ("piece",))

    def test_pieces_that_quarrel(self):
        run = Run(PLAN, ARRAYS)
        run.calm()
        run.machines[1].stand.pieces[PLAN.ends[0]] = ((), (28,))
        self.assertEqual(faults(run), ("piece",))

    def test_pieces_count_only_when_all_are_done(self):
        run = Run(PLAN, ARRAYS)
        run.calm()
        run.machines[1].stand.pieces[PLAN.ends[0]] = ((), (28,))
        run.fall(0)
        self.assertEqual(faults(run), ())

    def test_more_than_one_word(self):
        run = Run(PLAN, ARRAYS)
        run.calm()
        run.machines[1].stand.told[9, 0] = (1,)
        self.assertEqual(faults(run), ("round",))
        run.machines[1].stand.pieces[PLAN.ends[0]] = ((), (28,))
        self.assertEqual(faults(run), ("round", "piece"))
        run.machines[0].stand.got[0, 1] = (6,)
        self.assertEqual(faults(run), ("round", "got", "piece"))
        del run.machines[1].stand.told[9, 0]
        self.assertEqual(faults(run), ("got", "piece"))


class TestIsDue(unittest.TestCase):
    def test_the_letters_of_drawn_plans_and_those_beside_them(self):
        for number in range(40):
            parts = any_plan(number, steps=4, by_roads=number % 2 == 1)
            arrays = any_plan_arrays(number, parts)
            plan, letters = Plan(**parts), Lockstep(parts, arrays).letters
            dice, many = Dice(number), parts["grid"].many
            for at, row in enumerate(letters):
                for (source, to), numbers in sorted(row.items())[:3]:
                    self.assertIs(is_due(plan, arrays, (at, source, to, numbers)), True)
                    self.assertIs(is_due(plan, arrays, (at, source, to, list(numbers))), True)
                    changed = list(numbers)
                    changed[dice.below(len(changed))] += 1
                    for wrong in [changed, numbers[1:], numbers + (0,), (*numbers, numbers[0]), ()]:
                        self.assertIs(is_due(plan, arrays, (at, source, to, wrong)), False)
                    for other in [(at + 1, source, to), (at - 1, source, to), (at, to, source),
                                  (at, source, (to + 1) % many), (at, (source + 1) % many, to)]:
                        there = letters[other[0]].get(other[1:]) if 0 <= other[0] < len(letters) else None
                        self.assertIs(is_due(plan, arrays, (*other, numbers)), there == numbers)

    def test_known_letters(self):
        self.assertEqual(len(PLAN.rounds), 5)
        due = {(0, 0, 1): (4,), (0, 1, 0): (5,), (4, 0, 1): (12,), (4, 1, 0): (15,)}
        for at in range(-6, 8):
            for source in range(-3, 4):
                for to in range(-3, 4):
                    for numbers in [(4,), (5,), (12,), (15,), ()]:
                        expected = due.get((at, source, to)) == numbers
                        self.assertIs(is_due(PLAN, ARRAYS, (at, source, to, numbers)), expected)

    def test_the_same_as_in_runs(self):
        for number in range(60, 90):
            parts = any_plan(number)
            arrays = any_plan_arrays(number, parts)
            plan = Plan(**parts)
            run = Run(plan, arrays)
            run.calm()
            for machine in run.machines:
                for (at, to), numbers in list(machine.stand.told.items())[:10]:
                    self.assertTrue(is_due(plan, arrays, (at, machine.number, to, numbers)))

    def test_parts_that_the_first_round_makes(self):
        plan = Plan(PROGRAM, TWO, (BLOCKS,), (BLOCKS, BLOCKS), (("c", whole()),))
        self.assertEqual([deed[0] for deed in plan.rounds], ["make", "make", "send"])
        for letter, expected in [((2, 0, 1, (12,)), True), ((2, 1, 0, (15,)), True), ((2, 0, 1, (27,)), False),
                                 ((2, 1, 0, (0,)), False), ((0, 0, 1, (12,)), False)]:
            self.assertIs(is_due(plan, ARRAYS, letter), expected)
        plan = Plan(Program(PROGRAM.inputs, (("s", "sum", "a", ("i",)),)), TWO, (BLOCKS,), (BLOCKS,), (("s", whole()),))
        self.assertEqual([deed[0] for deed in plan.rounds], ["make", "send"])
        for letter, expected in [((1, 0, 1, (4,)), True), ((1, 1, 0, (5,)), True), ((1, 0, 1, (9,)), False)]:
            self.assertIs(is_due(plan, ARRAYS, letter), expected)

    def test_order_of_the_numbers(self):
        plan = Plan(Program((("a", (("i", 4),)),), ()), TWO, (BLOCKS,), (), (("a", whole()),))
        arrays = [Array((("i", 4),), (1, 2, 3, 4))]
        self.assertTrue(is_due(plan, arrays, (0, 1, 0, (3, 4))))
        self.assertFalse(is_due(plan, arrays, (0, 1, 0, (4, 3))))

    def test_other_arrays(self):
        self.assertFalse(is_due(PLAN, (Array(I2, (5, 5)),), (0, 0, 1, (4,))))
        self.assertTrue(is_due(PLAN, [Array(I2, (5, 5))], (0, 0, 1, (5,))))
        for letter in [(0, 0, 1, (4,)), (9, 0, 1, ()), (0, 5, 5, (4,))]:
            with self.assertRaises(BadInput) as caught:
                is_due(PLAN, (Array((), (5,)),), letter)
            self.assertEqual(caught.exception.number, 0)

    def test_arguments(self):
        letter = (0, 0, 1, [4])
        arrays = list(ARRAYS)
        self.assertIs(is_due(letter=letter, arrays=arrays, plan=PLAN), True)
        self.assertEqual((letter, arrays), ((0, 0, 1, [4]), list(ARRAYS)))
        parts = any_plan(5)
        arrays = any_plan_arrays(5, parts)
        plan = Plan(**{name: listed(value) for name, value in parts.items()})
        for at, row in enumerate(Lockstep(parts, arrays).letters):
            for (source, to), numbers in row.items():
                self.assertTrue(is_due(plan, listed(arrays), (at, source, to, listed(numbers))))

    def test_forty_steps_in_good_time(self):
        start = time.process_time()
        parts = any_plan(21, steps=40)
        arrays = any_plan_arrays(21, parts)
        plan = Plan(**parts)
        run = Run(plan, arrays)
        run.calm()
        for _ in range(20):
            self.assertEqual(faults(run), ())
        for (at, to), numbers in list(run.machines[0].stand.told.items())[:50]:
            self.assertTrue(is_due(plan, arrays, (at, 0, to, numbers)))
        self.assertLess(time.process_time() - start, 15)


if __name__ == "__main__":
    unittest.main()
