"""Exchanges: how the machines of a grid lead an array from a dealing to another."""

from dealtarrays.basics import combined
from dealtarrays.grids import places_along, places_of, places_of_all
from dealtarrays.wants import letters_between, many_combined, numbers_lacking, pieces_gathered, wants_of


def letters_of(sides, dealing, other, grid):
    """The letters (from, to, wants) of an exchange, ascending."""
    return letters_between(_wants_of_all(sides, dealing, other, grid))


def numbers_sent(sides, dealing, other, grid):
    """How many numbers the letters of an exchange have in all."""
    had, own = places_of_all(dealing, sides, grid), places_of_all(other, sides, grid)
    return numbers_between(dealing, other, grid, had, own)


def exchanged(pieces, sides, dealing, other, grid):
    """The pieces of the machines after an exchange."""
    return pieces_gathered(pieces, sides, other, grid, _wants_of_all(sides, dealing, other, grid))


def numbers_between(dealing, other, grid, had, own):
    """The numbers of an exchange, where had and own are the places of all machines by the one and the other dealing."""
    each = many_combined(grid, _not_in(dealing, other))
    machines = _first_along(grid, _not_in(other, dealing))
    return sum([numbers_lacking(own[machine], had[machine], each) for machine in machines])


def wants_in_exchange(sides, dealing, other, grid, machine):
    """What a machine wants in an exchange, also of itself: rows (place, combination, from)."""
    if _gets_zeros(dealing, other, grid, machine):
        return []
    own = combined(places_of(other, sides, grid, machine))
    both = [direction for direction in dealing.parts if direction in other.parts]
    kept = list(zip(both, places_along(grid, machine, both)))
    return wants_of(sides, dealing, grid, machine, own, _not_in(dealing, other), kept)


def _wants_of_all(sides, dealing, other, grid):
    return [wants_in_exchange(sides, dealing, other, grid, machine) for machine in range(grid.many)]


def _first_along(grid, directions):
    """The machines that are the first ones along these directions."""
    if len(directions) == 0:
        return list(range(grid.many))
    return [machine for machine in range(grid.many) if not any(places_along(grid, machine, directions))]


def _gets_zeros(dealing, other, grid, machine):
    """Whether another machine has the sums for this one, along directions that come into the parts."""
    return any(places_along(grid, machine, _not_in(other, dealing)))


def _not_in(dealing, other):
    """The directions in the parts of a dealing that are not in those of the other."""
    return [direction for direction in dealing.parts if direction not in other.parts]
