"""Roads: how an array is led from a dealing to another by several exchanges, at the least cost."""

from dealtarrays.charts import Chart


def least_road(sides, dealing, other, grid):
    """The least cost of a road between two dealings, and the first of the shortest roads with this cost."""
    return Chart(sides, grid).least_road(dealing, other)


def distances(sides, dealing, grid):
    """The least costs of roads from a dealing to all that fit, in the order of dealings."""
    return tuple(Chart(sides, grid).distances(dealing))
