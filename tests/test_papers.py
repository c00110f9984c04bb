"""Point [28]: papers of costs, and those who judge them."""

import itertools
import time
import unittest

from any_plans import ROAD_GRIDS, all_step_dealings, any_tree, many_rows
from any_values import listed
from brute import whole
from dealtarrays.grids import Dealing, Grid, dealings
from dealtarrays.papers import cost_paper, judge
from dealtarrays.planners import best_plan
from dealtarrays.plans import Plan
from dealtarrays.programs import Program, operands

TWO = Grid((("x", 2),))
THREE = Grid((("x", 3),))
SQUARE = Grid((("x", 2), ("y", 2)))
IK = (("i", 2), ("k", 2))
PARTS = Dealing((), ("x",))
SUM = Program((("a", (("i", 3),)),), (("b", "sum", "a", ("i",)),))


def cut(side, kind="blocks", direction="x"):
    return Dealing(((side, kind, direction),), ())


def part_for(parts, name):
    """The inputs and steps alone on which a name hangs, and the dealings of these inputs."""
    program, needed = parts["program"], {name}
    for step in reversed(program.steps):
        if step[0] in needed:
            needed.update(operands(step))
    inputs = [pair for pair in program.inputs if pair[0] in needed]
    given = [dealing for pair, dealing in zip(program.inputs, parts["given"]) if pair[0] in needed]
    return Program(inputs, [step for step in program.steps if step[0] in needed]), given


def paper_tried(parts, by_roads):
    """The paper from the costs of all plans that make a single array in a single dealing."""
    paper, grid = [], parts["grid"]
    for name in parts["program"].names():
        program, given = part_for(parts, name)
        rows = list(itertools.product(*(all_step_dealings(program, at, grid) for at in range(len(program.steps)))))
        paper.append(tuple(
            min(Plan(program, grid, given, row, ((name, dealing),), by_roads=by_roads).cost for row in rows)
            for dealing in dealings(program.sides_of(name), grid)))
    return tuple(paper)


class TestCostPaper(unittest.TestCase):
    def test_drawn_trees(self):
        checked = 0
        for number in range(60):
            parts = any_tree(number, steps=2, grid=ROAD_GRIDS[number % 3])
            many = many_rows(parts["program"], parts["grid"])
            for by_roads in (False, True):
                if many <= (15 if by_roads else 60):
                    self.assertEqual(cost_paper(by_roads=by_roads, **parts), paper_tried(parts, by_roads), number)
                    checked += 1
        self.assertGreater(checked, 50)

    def test_a_known_paper(self):
        # The dealings of a are whole, parts, blocks and turns, those of b whole and parts.
        parts = {"program": SUM, "grid": THREE, "given": (PARTS,), "wanted": (("b", whole()),)}
        self.assertEqual(cost_paper(**parts), ((18, 0, 6, 6), (12, 6)))
        self.assertEqual(cost_paper(by_roads=True, **parts), ((12, 0, 6, 6), (12, 6)))
        parts["given"] = (cut("i"),)
        self.assertEqual(cost_paper(**parts), ((6, 2, 0, 0), (6, 0)))
        self.assertEqual(cost_paper(by_roads=True, **parts), ((6, 2, 0, 0), (6, 0)))

    def test_the_costs_of_inputs_are_those_of_one_exchange_or_of_roads(self):
        program = Program((("a", (("i", 4),)),), ())
        parts = {"program": program, "grid": Grid((("x", 4),)), "given": (PARTS,), "wanted": (("a", whole()),)}
        self.assertEqual(cost_paper(**parts), ((48, 0, 12, 12),))
        self.assertEqual(cost_paper(by_roads=True, **parts), ((24, 0, 12, 12),))

    def test_nothing(self):
        for by_roads in (False, True):
            self.assertEqual(cost_paper(Program((), ()), TWO, (), (), by_roads=by_roads), ())
            self.assertIs(judge(Program((), ()), TWO, (), (), (), 0, by_roads=by_roads), True)
            self.assertIs(judge(Program((), ()), TWO, (), (), (), 1, by_roads=by_roads), False)
            self.assertIs(judge(Program((), ()), TWO, (), (), ((),), 0, by_roads=by_roads), False)

    def test_kinds_of_values(self):
        for number in range(10):
            paper = cost_paper(by_roads=number % 2 == 1, **any_tree(number))
            self.assertIs(type(paper), tuple)
            for row in paper:
                self.assertIs(type(row), tuple)
                self.assertTrue(all(type(cost) is int for cost in row))


class TestJudge(unittest.TestCase):
    def test_drawn_trees(self):
        for number in range(14):
            by_roads = number % 2 == 1
            parts = any_tree(number, steps=3, grid=ROAD_GRIDS[number % 3])
            paper = cost_paper(by_roads=by_roads, **parts)
            cost = best_plan(by_roads=by_roads, **parts).cost

            def said(paper, cost):
                return judge(paper=paper, cost=cost, by_roads=by_roads, **parts)

            self.assertIs(said(paper, cost), True)
            self.assertIs(said(listed(paper), cost), True)
            self.assertIs(said(tuple(listed(paper)), cost), True)
            for wrong in [cost + 1, cost - 1, -cost - 1, 10 ** 30]:
                self.assertIs(said(paper, wrong), False)
            for at, row in enumerate(paper):
                for place in sorted({0, len(row) // 2, len(row) - 1}):
                    changed = (*row[:place], row[place] + 1, *row[place + 1:])
                    self.assertIs(said((*paper[:at], changed, *paper[at + 1:]), cost), False)
                self.assertIs(said((*paper[:at], row[:-1], *paper[at + 1:]), cost), False)
                self.assertIs(said((*paper[:at], (*row, 0), *paper[at + 1:]), cost), False)
                self.assertIs(said((*paper[:at], (*row, row[-1]), *paper[at + 1:]), cost), False)
                self.assertIs(said((*paper[:at], (), *paper[at + 1:]), cost), False)
                self.assertIs(said(paper[:at] + paper[at + 1:], cost), False)
                self.assertIs(said((*paper[:at], row, *paper[at:]), cost), False)
            for wrong in [(), ((),), (*paper, ()), ((), *paper), (*paper, (0,)), [[]] * len(paper)]:
                self.assertIs(said(wrong, cost), False)
            if paper[::-1] != paper:
                self.assertIs(said(paper[::-1], cost), False)

    def test_a_cost_of_another_dealing(self):
        parts = {"program": SUM, "grid": THREE, "given": (PARTS,), "wanted": (("b", whole()),)}
        paper = cost_paper(**parts)
        self.assertEqual([cost for cost in range(30) if judge(paper=paper, cost=cost, **parts)], [12])
        parts["wanted"] = (("b", PARTS),)
        self.assertEqual([cost for cost in range(30) if judge(paper=paper, cost=cost, **parts)], [6])
        # The paper with roads is another one.
        self.assertIs(judge(paper=paper, cost=6, by_roads=True, **parts), False)
        self.assertIs(judge(paper=cost_paper(by_roads=True, **parts), cost=6, by_roads=True, **parts), True)

    def test_more_than_one_is_wanted(self):
        program = Program((("a", (("i", 2),)), ("b", (("i", 2),))), (("c", "scale", "b", 2),))
        wanted = (("c", whole()), ("a", whole()))
        parts = {"program": program, "grid": TWO, "given": (PARTS, cut("i")), "wanted": wanted}
        paper = cost_paper(**parts)
        self.assertEqual([cost for cost in range(30) if judge(paper=paper, cost=cost, **parts)], [6])
        self.assertEqual(best_plan(**parts).cost, 6)

    def test_arguments(self):
        parts = any_tree(2)
        cost, paper = best_plan(**parts).cost, listed(cost_paper(**parts))
        before = listed(paper)
        lists = {name: listed(value) for name, value in parts.items()}
        self.assertEqual(listed(cost_paper(**lists)), paper)
        self.assertIs(judge(paper=paper, cost=cost, **lists), True)
        self.assertEqual(paper, before)
        self.assertEqual(lists, {name: listed(value) for name, value in parts.items()})
        with self.assertRaises(TypeError):
            cost_paper(SUM, TWO, (PARTS,), (("b", PARTS),), True)
        with self.assertRaises(TypeError):
            judge(SUM, TWO, (PARTS,), (("b", PARTS),), paper, cost, True)

    def test_the_largest_in_good_time(self):
        start = time.process_time()
        for number in range(8):
            for by_roads in (False, True):
                for parts in (any_tree(number, steps=5, inputs=4, grid=SQUARE),
                              any_tree(number, steps=5, inputs=4, sides=3, cells=30, grid=Grid((("x", 4),)))):
                    paper = cost_paper(by_roads=by_roads, **parts)
                    cost = best_plan(by_roads=by_roads, **parts).cost
                    self.assertTrue(judge(paper=paper, cost=cost, by_roads=by_roads, **parts))
        self.assertLess(time.process_time() - start, 20)


if __name__ == "__main__":
    unittest.main()
