"""Papers: the least costs in trees, written down so that others can look through them."""

from dealtarrays.basics import as_tuples
from dealtarrays.charts import key_of
from dealtarrays.planners import choices_of
from dealtarrays.trees import least_of_tree
from dealtarrays.ways import Ways


def cost_paper(program, grid, given, wanted, *, by_roads=False):
    """For each name of a tree the least costs of its array in each of its dealings."""
    return _paper_of(_costs(program, grid, given, by_roads))


def judge(program, grid, given, wanted, paper, cost, *, by_roads=False):
    """Whether this is the paper of a tree, and this the least cost of what is wanted."""
    found = _costs(program, grid, given, by_roads)
    if as_tuples(paper) != _paper_of(found):
        return False
    return cost == sum([found[name][key_of(dealing)] for name, dealing in wanted])


def _costs(program, grid, given, by_roads):
    """For each name, by the keys of its dealings in their order, the least costs."""
    found = least_of_tree(program, choices_of(program, grid), given, Ways(grid, by_roads))
    return {name: {key: cost for key, (cost, _) in least.items()} for name, least in found.items()}


def _paper_of(found):
    return tuple([tuple(costs.values()) for costs in found.values()])
