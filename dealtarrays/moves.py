"""Moves: how an array is led from a dealing on a grid to a dealing on another grid."""

from dealtarrays.basics import combined
from dealtarrays.grids import places_of, places_of_all
from dealtarrays.wants import letters_between, many_combined, many_places, numbers_lacking, pieces_gathered, wants_of


def letters_moved(sides, dealing, grid, other, target):
    """The letters (from, to, wants) of a move, ascending."""
    return letters_between(_wants_of_all(sides, dealing, grid, other, target))


def numbers_moved(sides, dealing, grid, other, target):
    """How many numbers the letters of a move have in all."""
    each = many_combined(grid, dealing.parts)
    had, own = places_of_all(dealing, sides, grid), places_of_all(other, sides, target)
    known = [numbers_lacking(rows, old, each) for rows, old in zip(own, had)]
    # The machines that target has beyond those of the grid had nothing.
    new = [many_places(rows) * each for rows in own[grid.many:]]
    return sum(known) + sum(new)


def moved(pieces, sides, dealing, grid, other, target):
    """The pieces of the machines of target after a move."""
    return pieces_gathered(pieces, sides, other, target, _wants_of_all(sides, dealing, grid, other, target))


def _wants_of_all(sides, dealing, grid, other, target):
    """What each machine of target wants in a move, also of itself: rows (place, combination, from)."""
    found = []
    for machine in range(target.many):
        own = combined(places_of(other, sides, target, machine))
        found.append(wants_of(sides, dealing, grid, machine, own, dealing.parts, []))
    return found
