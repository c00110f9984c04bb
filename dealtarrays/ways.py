"""Ways: how arrays are led on a grid, by one exchange or by the road with the least cost."""

from dealtarrays.charts import Chart
from dealtarrays.exchanges import numbers_sent


class Ways:
    """The ways on a grid; what was found for some sides serves for all arrays that have them."""

    def __init__(self, grid, by_roads):
        self._grid = grid
        self._by_roads = by_roads
        self._charts = {}

    def road(self, sides, dealing, other):
        """What it costs to lead an array from a dealing to another, and the dealings that it is led through."""
        if dealing == other:
            return 0, (dealing,)
        if self._by_roads:
            return self._chart(sides).least_road(dealing, other)
        return numbers_sent(sides, dealing, other, self._grid), (dealing, other)

    def costs(self, sides, dealing):
        """What it costs to lead an array from a dealing to each that fits, by their keys, in their order."""
        chart = self._chart(sides)
        found = chart.distances(dealing) if self._by_roads else chart.numbers(dealing)
        return chart.costs_by_dealing(found)

    def _chart(self, sides):
        if sides not in self._charts:
            self._charts[sides] = Chart(sides, self._grid)
        return self._charts[sides]
