"""Arrays of integers with named sides."""

from dealtarrays.basics import are_sizes, as_tuples, combined, is_integer, is_row, place_number, product_of
from dealtarrays.errors import InvalidCells, InvalidSides

MOST_SIDES = 4
MOST_PLACES = 6
MOST_CELLS = 200


class Array:
    """Cells in the order of their places along the sides; the last side runs fastest."""

    def __init__(self, sides, cells):
        if not is_sides(sides):
            raise InvalidSides(sides)
        if not _are_cells(cells, sides):
            raise InvalidCells(cells)
        self.sides = as_tuples(sides)
        self.cells = tuple(cells)

    def cell(self, place):
        """The cell at a place."""
        return self.cells[place_number(self.sides, place)]

    def __eq__(self, other):
        return isinstance(other, Array) and self.sides == other.sides and self.cells == other.cells


def places(sides):
    """All places of arrays with these sides, ascending."""
    return tuple(combined([tuple(range(size)) for _, size in sides]))


def is_sides(sides):
    """Whether any value is sides."""
    return are_sizes(sides, MOST_SIDES, MOST_PLACES, MOST_CELLS)


def _are_cells(cells, sides):
    if not is_row(cells) or len(cells) != product_of([size for _, size in sides]):
        return False
    return all([is_integer(cell) for cell in cells])
