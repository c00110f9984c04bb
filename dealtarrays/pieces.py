"""Arrays cut in pieces for the machines of a grid, and joined again."""

from dealtarrays.arrays import Array
from dealtarrays.basics import combined, place_number, product_of
from dealtarrays.errors import Quarrel
from dealtarrays.grids import places_along, places_of


def cut_array(array, dealing, grid):
    """The pieces of the machines; the first ones along directions in parts have the cells, the others zeros."""
    return tuple([_piece_cut(array, dealing, grid, machine) for machine in range(grid.many)])


def join_pieces(pieces, sides, dealing, grid):
    """The array of which these are the pieces."""
    cells = [0] * product_of([size for _, size in sides])
    for machine in _first_machines(pieces, dealing, grid):
        rows, own = pieces[machine]
        for place, cell in zip(combined(rows), own):
            cells[place_number(sides, place)] += cell
    return Array(sides, cells)


def _piece_cut(array, dealing, grid, machine):
    rows = places_of(dealing, array.sides, grid, machine)
    cells = [array.cell(place) for place in combined(rows)]
    if any(places_along(grid, machine, dealing.parts)):
        cells = [0] * len(cells)
    return rows, tuple(cells)


def _first_machines(pieces, dealing, grid):
    """The machines that differ along directions of cuts or parts; the others must have pieces like theirs."""
    used = [direction for _, _, direction in dealing.cuts] + list(dealing.parts)
    first = {}
    for machine in range(grid.many):
        at = places_along(grid, machine, used)
        if pieces[first.setdefault(at, machine)] != pieces[machine]:
            raise Quarrel(machine)
    return list(first.values())
