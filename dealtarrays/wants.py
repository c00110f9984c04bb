"""What machines want of one another when an array is led from a dealing to another.

Wants are rows (place, combination, from): a place that the machine is to have, the places along the directions that
are summed, and the machine from which the cell is.
"""

from dealtarrays.basics import combined, product_of
from dealtarrays.grids import named_place, place_along, places_of


def wants_of(sides, dealing, grid, machine, own, summed, kept):
    """The wants of a machine that is to have its own places of an array dealt on this grid.

    It wants a cell for each combination of places along the directions in summed, and all of them at the places along
    directions that are kept.
    """
    lengths = dict(grid.directions)
    combinations = combined([tuple(range(lengths[direction])) for direction in summed])
    found = []
    for place in own:
        at = dict(kept + _places_along_cuts(sides, dealing, lengths, place))
        for combination in combinations:
            at.update(dict(zip(summed, combination)))
            found.append((place, combination, _machine_asked(grid, at, machine)))
    return found


def numbers_lacking(own, had, each):
    """How many numbers a machine wants of others, so as to have its own places, for each place so many in all.

    had has the places that it has already: of what is wanted for one of them it has a single number itself.
    """
    both = [[place for place in row if place in old] for row, old in zip(own, had)]
    return many_places(own) * each - many_places(both)


def many_combined(grid, directions):
    """How many combinations of places there are along these directions of the grid."""
    lengths = dict(grid.directions)
    return product_of([lengths[direction] for direction in directions])


def many_places(rows):
    """How many places a machine has that has these rows of places along the sides."""
    return product_of([len(row) for row in rows])


def letters_between(wanted):
    """The letters (from, to, wants) between different machines, where wanted has the wants of each machine."""
    found = {}
    for machine, wants in enumerate(wanted):
        for place, combination, source in wants:
            if source != machine:
                found.setdefault((source, machine), []).append((place, combination))
    return tuple([(*pair, tuple(found[pair])) for pair in sorted(found)])


def pieces_gathered(pieces, sides, other, target, wanted):
    """The pieces by the dealing other on the grid target, where wanted has the wants of each machine.

    Each cell is the sum of what is wanted for its place, and 0 where nothing is.
    """
    tables = [dict(zip(combined(rows), cells)) for rows, cells in pieces]
    found = []
    for machine, wants in enumerate(wanted):
        own = places_of(other, sides, target, machine)
        sums = {place: 0 for place in combined(own)}
        for place, _, source in wants:
            sums[place] += tables[source][place]
        found.append((own, tuple(sums.values())))
    return tuple(found)


def _places_along_cuts(sides, dealing, lengths, place):
    """The pairs of a direction that cuts, and the place along it of those that have this place of the array."""
    at = {side: (size, number) for (side, size), number in zip(sides, place)}
    found = []
    for side, kind, direction in dealing.cuts:
        size, number = at[side]
        found.append((direction, place_along(kind, size, lengths[direction], number)))
    return found


def _machine_asked(grid, at, machine):
    """The machine itself if it stands at these places along directions, otherwise the lowest one that does."""
    if machine < grid.many:
        if all([at.get(direction, along) == along for direction, along in named_place(grid, machine)]):
            return machine
    return grid.machine_at([at.get(direction, 0) for direction, _ in grid.directions])
