"""Exchanges: how the machines of a grid lead an array from a dealing to another."""

from dealtarrays.basics import combined
from dealtarrays.grids import places_along, places_of
from dealtarrays.wants import letters_between, numbers_wanted, pieces_gathered, wants_of


def letters_of(sides, dealing, other, grid):
    """The letters (from, to, wants) of an exchange, ascending."""
    return letters_between(_wants_of_all(sides, dealing, other, grid))


def numbers_sent(sides, dealing, other, grid):
    """How many numbers the letters of an exchange have in all."""
    summed = _not_in(dealing, other)
    machines = [machine for machine in range(grid.many) if not _gets_zeros(dealing, other, grid, machine)]
    return sum([numbers_wanted(sides, dealing, grid, other, grid, machine, summed) for machine in machines])


def exchanged(pieces, sides, dealing, other, grid):
    """The pieces of the machines after an exchange."""
    return pieces_gathered(pieces, sides, other, grid, _wants_of_all(sides, dealing, other, grid))


def wants_in_exchange(sides, dealing, other, grid, machine):
    """What a machine wants in an exchange, also of itself: rows (place, combination, from)."""
    if _gets_zeros(dealing, other, grid, machine):
        return []
    own = combined(places_of(other, sides, grid, machine))
    both = [direction for direction in dealing.parts if direction in other.parts]
    kept = list(zip(both, places_along(grid, machine, both)))
    return wants_of(sides, dealing, grid, machine, own, _not_in(dealing, other), kept)


def _wants_of_all(sides, dealing, other, grid):
    return [wants_in_exchange(sides, dealing, other, grid, machine) for machine in range(grid.many)]


def _gets_zeros(dealing, other, grid, machine):
    """Whether another machine has the sums for this one, along directions that come into the parts."""
    return any(places_along(grid, machine, _not_in(other, dealing)))


def _not_in(dealing, other):
    """The directions in the parts of a dealing that are not in those of the other."""
    return [direction for direction in dealing.parts if direction not in other.parts]
