"""Arrays of integers with named sides."""

from dealtarrays.basics import are_ascending, as_tuples, is_integer, is_integer_within, is_row, is_word
from dealtarrays.errors import InvalidCells, InvalidSides

MOST_SIDES = 4
MOST_PLACES = 6
MOST_CELLS = 200


class Array:
    """Cells in the order of their places along the sides; the last side runs fastest."""

    def __init__(self, sides, cells):
        if not is_sides(sides):
            raise InvalidSides(sides)
        if not _are_cells(cells, sides):
            raise InvalidCells(cells)
        self.sides = as_tuples(sides)
        self.cells = tuple(cells)

    def cell(self, place):
        """The cell at a place."""
        number = 0
        for (_, size), at in zip(self.sides, place):
            number = number * size + at
        return self.cells[number]

    def __eq__(self, other):
        return isinstance(other, Array) and self.sides == other.sides and self.cells == other.cells


def places(sides):
    """All places of arrays with these sides, ascending."""
    found = [()]
    for _, size in sides:
        found = [place + (at,) for place in found for at in range(size)]
    return tuple(found)


def is_sides(sides):
    """Whether any value is sides."""
    if not is_row(sides) or len(sides) > MOST_SIDES:
        return False
    if not all([_is_side(side) for side in sides]):
        return False
    return are_ascending([side[0] for side in sides]) and _many_cells(sides) <= MOST_CELLS


def _is_side(value):
    if not is_row(value) or len(value) != 2:
        return False
    return is_word(value[0]) and is_integer_within(value[1], 1, MOST_PLACES)


def _many_cells(sides):
    many = 1
    for _, size in sides:
        many = many * size
    return many


def _are_cells(cells, sides):
    if not is_row(cells) or len(cells) != _many_cells(sides):
        return False
    return all([is_integer(cell) for cell in cells])
