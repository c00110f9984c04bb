"""Memory: how many cells the machines hold at a time, and plans that keep within a bound."""

from dealtarrays.grids import places_of_all
from dealtarrays.planners import rows_dealt
from dealtarrays.plans import Plan
from dealtarrays.wants import many_places


def most_held(plan):
    """For each machine the greatest number of cells that it has at the beginning of a round, or at the end."""
    loads = [[0] * (len(plan.rounds) + 1) for _ in range(plan.grid.many)]
    for piece, last in _last_uses(plan).items():
        name, dealing = plan.pieces[piece]
        # What is given is there from the beginning on, what a round gives from the beginning of the next one.
        first = max(0, piece - len(plan.given) + 1)
        rows = places_of_all(dealing, plan.program.sides_of(name), plan.grid)
        for machine, own in enumerate(rows):
            for at in range(first, last + 1):
                loads[machine][at] += many_places(own)
    return tuple([max(load) for load in loads])


def best_plan_within(program, grid, given, wanted, most):
    """The first of the plans with the least cost among those in which no machine ever holds more cells; or None."""
    best = None
    for dealt in rows_dealt(program, grid):
        plan = Plan(program, grid, given, dealt, wanted)
        if best is None or plan.cost < best.cost:
            if max(most_held(plan)) <= most:
                best = plan
    return best


def _last_uses(plan):
    """For each piece of a plan that is held, the round that uses it last, or the number of rounds if it is wanted."""
    found = {}
    for number, used in enumerate(plan.uses):
        for piece in used:
            found[piece] = number
    for piece in plan.ends:
        found[piece] = len(plan.rounds)
    return found
