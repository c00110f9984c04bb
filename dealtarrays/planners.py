"""Planners: the plans that send the fewest numbers."""

from dealtarrays.basics import combined, product_of
from dealtarrays.charts import key_of
from dealtarrays.errors import TooMany
from dealtarrays.grids import dealings
from dealtarrays.indexes import index_sides
from dealtarrays.leads import leads_of
from dealtarrays.makes import may_deal
from dealtarrays.plans import Plan
from dealtarrays.trees import is_tree, least_of_tree, least_together
from dealtarrays.ways import Ways

MOST_ROWS = 300


def step_dealings(program, number, grid):
    """All dealings by which the machines of the grid can make the step of this number, ascending by their cuts."""
    found = dealings(index_sides(program, program.steps[number]), grid)
    return tuple([dealing for dealing in found if may_deal(program, number, dealing, grid)])


def best_plan(program, grid, given, wanted, *, by_roads=False):
    """The first of the plans with the least cost."""
    ways = Ways(grid, by_roads)
    if is_tree(program, wanted):
        dealt = _dealt_in_tree(program, grid, given, wanted, ways)
    else:
        dealt = _dealt_at_least(program, grid, given, wanted, ways)
    return Plan(program, grid, given, dealt, wanted, by_roads=by_roads)


def choices_of(program, grid):
    """The step dealings of each step."""
    return [step_dealings(program, number, grid) for number in range(len(program.steps))]


def rows_dealt(program, grid):
    """All rows of step dealings, in ascending order of their cuts."""
    choices = choices_of(program, grid)
    many = product_of([len(found) for found in choices])
    if many > MOST_ROWS:
        raise TooMany(many)
    return combined(choices)


def _dealt_in_tree(program, grid, given, wanted, ways):
    choices = choices_of(program, grid)
    found = least_of_tree(program, choices, given, ways)
    _, row = least_together([found[name][key_of(dealing)] for name, dealing in wanted])
    return [choices[number][at] for number, at in row]


def _dealt_at_least(program, grid, given, wanted, ways):
    rows = rows_dealt(program, grid)
    costs = [_cost_of(program, given, dealt, wanted, ways) for dealt in rows]
    # Of equal costs the first one is found.
    return rows[costs.index(min(costs))]


def _cost_of(program, given, dealt, wanted, ways):
    """What a plan with this row of step dealings costs."""
    leads = [lead for row in leads_of(program, given, dealt, wanted) for lead in row]
    return sum([ways.costs(program.sides_of(name), dealing)[key_of(other)] for name, dealing, other in leads])
