"""Charts: what it costs to lead an array from each of its dealings to each other one."""

from heapq import heappop, heappush

from dealtarrays.exchanges import numbers_between
from dealtarrays.grids import dealings, places_of_all


class Chart:
    """The dealings of arrays with these sides, in their order, and how many numbers the exchanges between them send."""

    def __init__(self, sides, grid):
        self._grid = grid
        self._dealings = dealings(sides, grid)
        self._held = [places_of_all(dealing, sides, grid) for dealing in self._dealings]
        self._at = {key_of(dealing): at for at, dealing in enumerate(self._dealings)}
        # Both are worked out when they are asked for, and kept, since many roads are sought on the same chart.
        self._numbers = {}
        self._distances = {}

    def numbers(self, dealing):
        """What one exchange from this dealing to each of the dealings sends."""
        return self._numbers_from(self._at[key_of(dealing)])

    def distances(self, dealing):
        """The least costs of roads from this dealing to each of the dealings."""
        start = self._at[key_of(dealing)]
        if start not in self._distances:
            self._distances[start] = [cost for cost, _ in least_from(self._all_numbers(), start)]
        return self._distances[start]

    def least_road(self, dealing, other):
        """The least cost of a road, and the first of the shortest roads that cost no more."""
        numbers = self._all_numbers()
        at, end = self._at[key_of(dealing)], self._at[key_of(other)]
        # What is still to come from each dealing is the way back from the end with all exchanges turned round.
        left = least_from([list(column) for column in zip(*numbers)], end)
        cost = left[at][0]
        road = [self._dealings[at]]
        while at != end:
            at = _next_on_road(numbers[at], left, left[at])
            road.append(self._dealings[at])
        return cost, tuple(road)

    def costs_by_dealing(self, costs):
        """The costs to the dealings, in their order, by the keys of the dealings."""
        return dict(zip(self._at, costs))

    def _all_numbers(self):
        return [self._numbers_from(at) for at in range(len(self._dealings))]

    def _numbers_from(self, at):
        if at not in self._numbers:
            dealing, held = self._dealings[at], self._held[at]
            self._numbers[at] = [numbers_between(dealing, other, self._grid, held, own)
                                 for other, own in zip(self._dealings, self._held)]
        return self._numbers[at]


def key_of(dealing):
    """What tells a dealing from all others, and can be looked up."""
    return dealing.cuts, dealing.parts


def least_from(costs, start):
    """The least pairs (cost, exchanges) from start to each, where costs has a row of costs from each to each."""
    found = [None] * len(costs)
    queue = [(0, 0, start)]
    while len(queue) > 0:
        cost, many, at = heappop(queue)
        if found[at] is None:
            found[at] = (cost, many)
            for to, more in enumerate(costs[at]):
                if found[to] is None:
                    heappush(queue, (cost + more, many + 1, to))
    return found


def _next_on_road(costs, left, here):
    """The first dealing from which there is left what is left here, less what one exchange to it costs."""
    cost, many = here
    return [to for to, more in enumerate(costs) if left[to] == (cost - more, many - 1)][0]
