"""Points [21] and [22]: plans, their roads, rounds and costs."""

import time
import unittest

from any_plans import ROAD_GRIDS, any_plan, any_plan_arrays, cells_of
from any_programs import any_program
from any_values import ANY_VALUES, listed
from brute import whole
from dealtarrays.errors import NoDealing, NoName
from dealtarrays.exchanges import numbers_sent
from dealtarrays.grids import Dealing, Grid, dealings
from dealtarrays.plans import Plan, piece_rounds
from dealtarrays.programs import Program
from plan_model import Lockstep, key

TWO = Grid((("x", 2),))
FOUR = Grid((("x", 4),))
PARTS = Dealing((), ("x",))


def cut(side, kind="blocks", direction="x"):
    return Dealing(((side, kind, direction),), ())


def told(deed):
    """A round with keys in place of dealings, so that two of them can be seen to be equal or not."""
    return tuple(key(part) if isinstance(part, Dealing) else part for part in deed)


PRODUCT = Program((("a", (("i", 2), ("k", 2))), ("b", (("j", 2), ("k", 2)))), (("c", "mulsum", "a", "b", ("k",)),))


class PlanCase(unittest.TestCase):
    def check(self, parts):
        plan = Plan(**parts)
        model = Lockstep(parts, any_plan_arrays(0, parts))
        self.assertEqual([told(deed) for deed in plan.rounds], [told(deed) for deed in model.rounds])
        self.assertEqual(plan.cost, model.cost)
        self.assertEqual(piece_rounds(plan), tuple(model.numbers))
        self.assertEqual(plan.cost, sum(piece_rounds(plan)))


class TestDrawnPlans(PlanCase):
    def test_by_one_exchange(self):
        for number in range(60):
            self.check(any_plan(number))

    def test_by_roads(self):
        for number in range(50):
            self.check(any_plan(number, by_roads=True))

    def test_many_steps(self):
        self.check(any_plan(3, steps=40))
        self.check(any_plan(4, steps=40, by_roads=True, grid=ROAD_GRIDS[2]))

    def test_roads_cost_no_more_than_exchanges(self):
        fewer = 0
        for number in range(60):
            parts = any_plan(number, by_roads=True)
            costs = [Plan(**{**parts, "by_roads": by_roads}).cost for by_roads in (True, False)]
            self.assertLessEqual(costs[0], costs[1])
            fewer += costs[0] < costs[1]
        self.assertGreater(fewer, 3)


class TestKnownPlans(PlanCase):
    def test_the_rounds_of_a_product(self):
        plan = Plan(PRODUCT, TWO, (cut("i"), whole()), (cut("k"),), (("c", cut("i")), ("a", whole())))
        self.assertEqual([told(deed) for deed in plan.rounds], [told(deed) for deed in (
            ("send", "a", cut("i"), cut("k")), ("send", "b", whole(), cut("k")), ("make", "c"),
            ("send", "c", PARTS, cut("i")), ("send", "a", cut("i"), whole()),
        )])
        self.assertEqual(piece_rounds(plan), (2, 0, 0, 4, 4))
        self.assertEqual(plan.cost, 10)

    def test_nothing_between_equal_dealings(self):
        plan = Plan(PRODUCT, TWO, (cut("k"), cut("k")), (cut("k"),), (("c", PARTS), ("b", cut("k"))))
        self.assertEqual(plan.rounds, (("make", "c"),))
        self.assertEqual((plan.cost, piece_rounds(plan)), (0, (0,)))
        by_roads = Plan(PRODUCT, TWO, (cut("k"), cut("k")), (cut("k"),), (("c", PARTS),), by_roads=True)
        self.assertEqual((by_roads.rounds, by_roads.cost), ((("make", "c"),), 0))

    def test_an_exchange_that_sends_nothing_is_a_round_too(self):
        plan = Plan(PRODUCT, TWO, (whole(), whole()), (cut("k"),), ())
        self.assertEqual([deed[:2] for deed in plan.rounds], [("send", "a"), ("send", "b"), ("make", "c")])
        self.assertEqual(piece_rounds(plan), (0, 0, 0))
        one = Grid((("x", 1),))
        plan = Plan(PRODUCT, one, (cut("i"), PARTS), (cut("k"),), (("c", whole()),))
        self.assertEqual([deed[0] for deed in plan.rounds], ["send", "send", "make", "send"])
        self.assertEqual(plan.cost, 0)

    def test_an_operand_that_is_used_twice(self):
        program = Program((("a", (("i", 2),)),), (("b", "mul", "a", "a"), ("c", "add", "a", "b")))
        plan = Plan(program, TWO, (cut("i"),), (whole(), whole()), ())
        self.assertEqual([told(deed) for deed in plan.rounds], [
            ("send", "a", key(cut("i")), key(whole())), ("send", "a", key(cut("i")), key(whole())), ("make", "b"),
            ("send", "a", key(cut("i")), key(whole())), ("make", "c"),
        ])
        self.assertEqual(plan.cost, 6)

    def test_by_roads(self):
        program = Program((("a", (("i", 4), ("k", 2))),), (("b", "scale", "a", 2),))
        straight = Plan(program, FOUR, (PARTS,), (whole(),), (("a", whole()),))
        self.assertEqual([deed[:2] for deed in straight.rounds], [("send", "a"), ("make", "b"), ("send", "a")])
        self.assertEqual(straight.cost, 2 * 8 * 4 * 3)
        plan = Plan(program, FOUR, (PARTS,), (whole(),), (("a", whole()),), by_roads=True)
        road = [("send", "a", key(PARTS), key(cut("i"))), ("send", "a", key(cut("i")), key(whole()))]
        self.assertEqual([told(deed) for deed in plan.rounds], [*road, ("make", "b"), *road])
        self.assertEqual(plan.cost, 2 * 2 * 8 * 3)
        self.assertEqual(piece_rounds(plan), (24, 24, 0, 24, 24))

    def test_by_roads_is_passed_by_its_name_only(self):
        with self.assertRaises(TypeError):
            Plan(PRODUCT, TWO, (whole(), whole()), (whole(),), (), True)

    def test_nothing_wanted(self):
        plan = Plan(PRODUCT, TWO, (whole(), whole()), (whole(),), ())
        self.assertEqual((plan.wanted, plan.rounds, plan.cost), ((), (("make", "c"),), 0))

    def test_no_steps_and_no_inputs(self):
        plan = Plan(Program((), ()), TWO, (), (), ())
        self.assertEqual((plan.given, plan.dealt, plan.wanted), ((), (), ()))
        self.assertEqual((plan.rounds, plan.cost, piece_rounds(plan)), ((), 0, ()))
        plan = Plan(Program(PRODUCT.inputs, ()), TWO, [cut("i"), whole()], [], [["a", whole()]])
        self.assertEqual([told(deed) for deed in plan.rounds], [("send", "a", key(cut("i")), key(whole()))])

    def test_wanted_in_any_order(self):
        wanted = (("c", whole()), ("b", cut("j")), ("a", cut("i", "turns")))
        plan = Plan(PRODUCT, TWO, (whole(), whole()), (cut("k"),), wanted)
        self.assertEqual([deed[1] for deed in plan.rounds[3:]], ["c", "b", "a"])
        plan = Plan(PRODUCT, TWO, (whole(), whole()), (cut("k"),), wanted[::-1])
        self.assertEqual([deed[1] for deed in plan.rounds[3:]], ["a", "b", "c"])


class TestErrors(unittest.TestCase):
    PROGRAM = Program((("a", (("i", 2), ("k", 2))),), (
        ("b", "shift", "a", "i", 1), ("c", "sum", "a", ("k",)), ("d", "add", "b", "c"),
    ))

    def plan(self, dealt, wanted=()):
        return Plan(self.PROGRAM, TWO, (whole(),), dealt, wanted)

    def test_the_first_step_that_may_not_be_dealt_so(self):
        good = [cut("k"), cut("k"), cut("i")]
        self.assertEqual(self.plan(good).dealt, tuple(good))
        bad = [
            [cut("i"), PARTS, cut("z"), cut("k", "turns", "y"), Dealing((("k", "blocks", "x"),), ("y",))],
            [PARTS, cut("j"), cut("i", "blocks", "y")], [PARTS, cut("z"), cut("k", "turns", "z")],
        ]
        for number in range(3):
            for dealing in bad[number]:
                with self.assertRaises(NoDealing) as caught:
                    self.plan([*good[:number], dealing, *good[number + 1:]])
                self.assertEqual(caught.exception.number, number)
        with self.assertRaises(NoDealing) as caught:
            self.plan([good[0], PARTS, PARTS])
        self.assertEqual(caught.exception.number, 1)

    def test_the_first_name_that_is_none(self):
        good = [cut("k"), cut("k"), cut("i")]
        for name in ["e", "", "i", "x", "input", *ANY_VALUES]:
            if name == "a":
                continue
            for wanted in [((name, whole()),), (("a", whole()), (name, whole()), ("q", whole()))]:
                with self.assertRaises(NoName) as caught:
                    self.plan(good, wanted)
                self.assertIs(caught.exception.name, name)

    def test_the_order_of_the_errors(self):
        with self.assertRaises(NoDealing) as caught:
            self.plan([cut("k"), cut("k"), cut("z")], (("q", whole()),))
        self.assertEqual(caught.exception.number, 2)


class TestArguments(unittest.TestCase):
    def test_the_attributes_are_as_passed(self):
        for number in range(10):
            for by_roads in (False, True):
                parts = any_plan(number, by_roads=by_roads)
                for wrap in (lambda value: value, listed):
                    plan = Plan(**{name: wrap(value) for name, value in parts.items()})
                    for name, value in parts.items():
                        found = getattr(plan, name)
                        self.assertEqual(found, value, name)
                        self.assertIs(type(found), type(value))
                    self.assertIs(plan.program, parts["program"])
                    self.assertIs(plan.grid, parts["grid"])
                    self.assertTrue(all(type(pair) is tuple for pair in plan.wanted))
                    self.assertIs(type(plan.rounds), tuple)
                    self.assertTrue(all(type(deed) is tuple for deed in plan.rounds))
                    self.assertIs(type(plan.cost), int)
                    self.assertIs(type(piece_rounds(plan=plan)), tuple)

    def test_by_roads_is_false_unless_it_is_passed(self):
        parts = any_plan(0)
        del parts["by_roads"]
        self.assertIs(Plan(**parts).by_roads, False)

    def test_arguments_are_not_changed_and_later_changes_have_no_effect(self):
        given, dealt, wanted = [cut("i"), whole()], [cut("k")], [["c", cut("i")], ["a", whole()]]
        plan = Plan(PRODUCT, TWO, given, dealt, wanted)
        rounds, numbers = plan.rounds, piece_rounds(plan)
        self.assertEqual(given, [cut("i"), whole()])
        self.assertEqual(dealt, [cut("k")])
        self.assertEqual(wanted, [["c", cut("i")], ["a", whole()]])
        given.clear()
        dealt[0] = whole()
        wanted[0][0] = "q"
        wanted.clear()
        self.assertEqual(plan.given, (cut("i"), whole()))
        self.assertEqual(plan.dealt, (cut("k"),))
        self.assertEqual(plan.wanted, (("c", cut("i")), ("a", whole())))
        self.assertEqual((plan.rounds, piece_rounds(plan), plan.cost), (rounds, numbers, 10))

    def test_a_plan_is_unlike_anything_else(self):
        plan = Plan(**any_plan(0))
        for other in (None, 1, "a", (), PRODUCT, TWO):
            self.assertIs(plan == other, False)
            self.assertIs(plan != other, True)

    def test_the_costs_are_those_of_numbers_sent(self):
        for number in range(10):
            plan = Plan(**any_plan(number))
            for deed, many in zip(plan.rounds, piece_rounds(plan)):
                if deed[0] == "send":
                    _, name, dealing, other = deed
                    self.assertEqual(many, numbers_sent(plan.program.sides_of(name), dealing, other, plan.grid))
                else:
                    self.assertEqual((deed[0], len(deed), many), ("make", 2, 0))

    def test_forty_steps_in_good_time(self):
        start = time.process_time()
        grid = Grid((("x", 2), ("y", 3)))
        program = any_program(7, steps=40, most_cells=30, most_sides=3)
        dealt = [whole()] * 40
        given = [dealings(sides, grid)[-1] for _, sides in program.inputs]
        wanted = [(name, dealings(program.sides_of(name), grid)[-1]) for name in program.names()]
        plan = Plan(program, grid, given, dealt, wanted)
        self.assertEqual(plan.cost, sum(piece_rounds(plan)))
        self.assertLess(time.process_time() - start, 10)

    def test_forty_steps_by_roads_in_good_time(self):
        start = time.process_time()
        parts = any_plan(11, steps=40, by_roads=True, grid=ROAD_GRIDS[2])
        self.assertTrue(all(cells_of(parts["program"], name) <= 9 for name in parts["program"].names()))
        self.assertEqual(Plan(**parts).cost, sum(piece_rounds(Plan(**parts))))
        self.assertLess(time.process_time() - start, 20)


if __name__ == "__main__":
    unittest.main()
