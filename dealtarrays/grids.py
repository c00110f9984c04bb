"""Grids of machines, and how arrays are dealt among the machines of a grid."""

from dealtarrays.arrays import places
from dealtarrays.basics import (
    are_ascending, are_sizes, as_tuples, is_integer_within, is_row, is_row_of_words, is_word, place_number,
)
from dealtarrays.errors import InvalidDealing, InvalidGrid, NoMachine

MOST_DIRECTIONS = 3
MOST_ALONG = 4
MOST_MACHINES = 8

BLOCKS = "blocks"
TURNS = "turns"


class Grid:
    """Machines at the places along directions, counted in ascending order of their places."""

    def __init__(self, directions):
        if not are_sizes(directions, MOST_DIRECTIONS, MOST_ALONG, MOST_MACHINES) or len(directions) == 0:
            raise InvalidGrid(directions)
        self.directions = as_tuples(directions)
        self._places = places(self.directions)
        self.many = len(self._places)

    def place_of(self, machine):
        """The place of a machine along the directions."""
        if not is_integer_within(machine, 0, self.many - 1):
            raise NoMachine(machine)
        return self._places[machine]

    def machine_at(self, place):
        """The machine at a place."""
        return place_number(self.directions, place)

    def __eq__(self, other):
        return isinstance(other, Grid) and self.directions == other.directions


class Dealing:
    """Which sides are cut along which directions, and along which directions the values are parts of sums."""

    def __init__(self, cuts, parts):
        if not _are_cuts(cuts) or not is_row_of_words(parts) or _meet(cuts, parts):
            raise InvalidDealing(cuts, parts)
        self.cuts = as_tuples(cuts)
        self.parts = tuple(parts)

    def __eq__(self, other):
        return isinstance(other, Dealing) and self.cuts == other.cuts and self.parts == other.parts


def fits(dealing, sides, grid):
    """Whether a dealing cuts only these sides, and only along the directions of the grid."""
    names = dict(sides)
    directions = dict(grid.directions)
    if not all([side in names and direction in directions for side, _, direction in dealing.cuts]):
        return False
    return all([direction in directions for direction in dealing.parts])


def dealings(sides, grid):
    """All dealings that fit, ascending by their cuts and parts."""
    rows = [((), ())]
    for direction, _ in grid.directions:
        rows = [row for cuts, parts in rows for row in _with_direction(cuts, parts, direction, sides)]
    return tuple([Dealing(cuts, parts) for cuts, parts in sorted(rows)])


def places_of(dealing, sides, grid, machine):
    """For each side the places along it that a machine has."""
    along = {direction: (span, at) for (direction, span), at in zip(grid.directions, grid.place_of(machine))}
    cut = {side: (kind, *along[direction]) for side, kind, direction in dealing.cuts}
    found = []
    for side, size in sides:
        own = tuple(range(size))
        if side in cut:
            kind, many, mine = cut[side]
            own = tuple([place for place in own if place_along(kind, size, many, place) == mine])
        found.append(own)
    return tuple(found)


def places_of_all(dealing, sides, grid):
    """For each machine its places of each side."""
    return tuple([places_of(dealing, sides, grid, machine) for machine in range(grid.many)])


def places_along(grid, machine, directions):
    """The places of a machine along these directions of the grid, in the order in which they are given."""
    along = dict(named_place(grid, machine))
    return tuple([along[direction] for direction in directions])


def named_place(grid, machine):
    """The pairs of a direction and the machine's place along it."""
    return [(direction, at) for (direction, _), at in zip(grid.directions, grid.place_of(machine))]


def place_along(kind, size, many, place):
    """The place along a direction of size many that has this place of a side of this size."""
    if kind == TURNS:
        return place % many
    block = (size + many - 1) // many
    return place // block


def _with_direction(cuts, parts, direction, sides):
    """The cuts and parts, and all those that come of them if this direction is used, too."""
    free = [side for side, _ in sides if side not in [cut[0] for cut in cuts]]
    more = [(side, kind, direction) for side in free for kind in (BLOCKS, TURNS)]
    return [(cuts, parts), (cuts, (*parts, direction))] + [(tuple(sorted([*cuts, cut])), parts) for cut in more]


def _are_cuts(value):
    if not is_row(value) or not all([_is_cut(cut) for cut in value]):
        return False
    directions = [cut[2] for cut in value]
    return are_ascending([cut[0] for cut in value]) and len(set(directions)) == len(directions)


def _is_cut(value):
    if not is_row(value) or len(value) != 3:
        return False
    return is_word(value[0]) and value[1] in (BLOCKS, TURNS) and is_word(value[2])


def _meet(cuts, parts):
    """Whether a direction of cuts is in parts, too."""
    return not all([cut[2] not in parts for cut in cuts])
