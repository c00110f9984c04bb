"""Trees: programs in which each array is used exactly once, so that the least costs come array by array."""

from dealtarrays.charts import key_of
from dealtarrays.leads import needs_of
from dealtarrays.makes import made_dealing
from dealtarrays.programs import operands


def is_tree(program, wanted):
    """Whether each input and each step is used exactly once, by a step or by those who want it."""
    used = [name for step in program.steps for name in operands(step)] + [name for name, _ in wanted]
    return all([used.count(name) == 1 for name in program.names()])


def least_of_tree(program, choices, given, ways):
    """For each name of a tree, by the keys of its dealings in their order, the least pair (cost, row).

    The cost is that of having the array in this dealing. The row tells by which choices, as pairs (number, at) for all
    steps on the way, ascending: the step of this number is dealt by choices[number][at].
    """
    found = {}
    for (name, sides), dealing in zip(program.inputs, given):
        found[name] = {key: (cost, ()) for key, cost in ways.costs(sides, dealing).items()}
    for number, step in enumerate(program.steps):
        found[step[0]] = _least_of_step(program, number, choices[number], found, ways)
    return found


def least_together(pairs):
    """The sum of the costs, and all rows in one, of pairs (cost, row) for arrays that have no step in common.

    If each of the rows is the first one with its cost, so is the one row, since each stands there at places of its own.
    """
    return sum([cost for cost, _ in pairs]), tuple(sorted([choice for _, row in pairs for choice in row]))


def _least_of_step(program, number, choices, found, ways):
    sides = program.sides_of(program.steps[number][0])
    least = {}
    for at, dealing in enumerate(choices):
        needs = needs_of(program, number, dealing)
        cost, row = least_together([found[name][key_of(needed)] for name, needed in needs])
        for key, more in ways.costs(sides, made_dealing(program, number, dealing)).items():
            pair = (cost + more, (*row, (number, at)))
            least[key] = min(least.get(key, pair), pair)
    return least
