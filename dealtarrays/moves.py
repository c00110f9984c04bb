"""Moves: how an array is led from a dealing on a grid to a dealing on another grid."""

from dealtarrays.basics import combined
from dealtarrays.grids import places_of
from dealtarrays.wants import letters_between, numbers_wanted, pieces_gathered, wants_of


def letters_moved(sides, dealing, grid, other, target):
    """The letters (from, to, wants) of a move, ascending."""
    return letters_between(_wants_of_all(sides, dealing, grid, other, target))


def numbers_moved(sides, dealing, grid, other, target):
    """How many numbers the letters of a move have in all."""
    machines = range(target.many)
    return sum([numbers_wanted(sides, dealing, grid, other, target, machine, dealing.parts) for machine in machines])


def moved(pieces, sides, dealing, grid, other, target):
    """The pieces of the machines of target after a move."""
    return pieces_gathered(pieces, sides, other, target, _wants_of_all(sides, dealing, grid, other, target))


def _wants_of_all(sides, dealing, grid, other, target):
    """What each machine of target wants in a move, also of itself: rows (place, combination, from)."""
    found = []
    for machine in range(target.many):
        own = combined(places_of(other, sides, target, machine))
        found.append(wants_of(sides, dealing, grid, machine, own, dealing.parts, []))
    return found
