"""What machines have and want, found by trying all machines and all places, as the document words it."""

import itertools

from dealtarrays.arrays import Array
from dealtarrays.grids import Dealing, Grid

GRIDS = [
    Grid((("x", 1),)), Grid((("x", 2),)), Grid((("x", 3),)), Grid((("x", 4),)), Grid((("x", 2), ("y", 2))),
    Grid((("x", 2), ("y", 3))), Grid((("x", 4), ("y", 2))), Grid((("a", 2), ("x", 2), ("y", 2))),
]
SMALL_GRIDS = [Grid((("x", 2),)), Grid((("x", 3),)), Grid((("x", 2), ("y", 2))), Grid((("x", 1), ("y", 3)))]
SIDES = [(), (("i", 1),), (("i", 5),), (("i", 3), ("k", 4))]


def all_places(rows):
    return list(itertools.product(*rows))


def cells_mixed(many, by=7):
    """Unlike cells that do not ascend."""
    return [(at * by * by + 3 * at + 1) % 101 - 50 for at in range(many)]


def array_mixed(sides, by=7):
    many = len(all_places([range(size) for _, size in sides]))
    return Array(sides, cells_mixed(many, by))


def along(grid, machine):
    """The places of a machine along the directions, by their names."""
    places = list(itertools.product(*(range(size) for _, size in grid.directions)))[machine]
    return {direction: place for (direction, _), place in zip(grid.directions, places)}


def rows_of(dealing, sides, grid, machine):
    """The places along each side that a machine has."""
    at, lengths = along(grid, machine), dict(grid.directions)
    cuts = {side: (kind, direction) for side, kind, direction in dealing.cuts}
    rows = []
    for side, size in sides:
        row = range(size)
        if side in cuts:
            kind, direction = cuts[side]
            g, m = lengths[direction], at[direction]
            block = -(-size // g)
            row = range(m, size, g) if kind == "turns" else range(min(m * block, size), min((m + 1) * block, size))
        rows.append(tuple(row))
    return tuple(rows)


def parts_mixed(sides, dealing, grid, by=7):
    """Pieces of which the parts differ, and machines that differ only along other directions have like ones."""
    used = [direction for _, _, direction in dealing.cuts] + list(dealing.parts)
    pieces = []
    for machine in range(grid.many):
        at, rows = along(grid, machine), rows_of(dealing, sides, grid, machine)
        mark = sum((place + 1) * 13 ** number for number, place in enumerate(at[direction] for direction in used))
        cells = [sum((place + 2) * 5 ** number for number, place in enumerate(places)) * mark % 97 - by
                 for places in all_places(rows)]
        pieces.append((rows, tuple(cells)))
    return tuple(pieces)


def joined(pieces, sides, dealing, grid):
    """The array of pieces, by a sum for each place over the combinations of places along parts."""
    lengths = dict(grid.directions)
    cells = []
    for place in all_places([range(size) for _, size in sides]):
        total = 0
        for combination in all_places([range(lengths[direction]) for direction in dealing.parts]):
            machine = lowest(sides, dealing, grid, place, dict(zip(dealing.parts, combination)))
            rows, own = pieces[machine]
            total += own[all_places(rows).index(place)]
        cells.append(total)
    return Array(sides, cells)


def havers(sides, dealing, grid, place, at):
    """The machines that have this place and are at these places along directions."""
    return [machine for machine in range(grid.many)
            if all(number in row for number, row in zip(place, rows_of(dealing, sides, grid, machine)))
            and all(along(grid, machine)[direction] == number for direction, number in at.items())]


def lowest(sides, dealing, grid, place, at):
    return havers(sides, dealing, grid, place, at)[0]


def wants(sides, dealing, grid, rows, machine, summed, kept):
    """A row (place, combination, from) for all that a machine wants that is to have these rows of places."""
    lengths, found = dict(grid.directions), []
    for place in all_places(rows):
        for combination in all_places([range(lengths[direction]) for direction in summed]):
            machines = havers(sides, dealing, grid, place, {**dict(zip(summed, combination)), **kept})
            found.append((place, combination, machine if machine in machines else machines[0]))
    return found


def wants_exchanged(sides, dealing, other, grid):
    """For each machine what it wants, or None if it gets zeros."""
    summed = [direction for direction in dealing.parts if direction not in other.parts]
    new = [direction for direction in other.parts if direction not in dealing.parts]
    both = [direction for direction in other.parts if direction in dealing.parts]
    found = []
    for machine in range(grid.many):
        at = along(grid, machine)
        if any(at[direction] for direction in new):
            found.append(None)
        else:
            rows = rows_of(other, sides, grid, machine)
            kept = {direction: at[direction] for direction in both}
            found.append(wants(sides, dealing, grid, rows, machine, summed, kept))
    return found


def wants_moved(sides, dealing, grid, other, target):
    return [wants(sides, dealing, grid, rows_of(other, sides, target, machine), machine, dealing.parts, {})
            for machine in range(target.many)]


def letters(found):
    pairs = sorted({(source, to) for to, row in enumerate(found) for _, _, source in row or [] if source != to})
    return tuple(
        (source, to, tuple(sorted((place, combination) for place, combination, other in found[to] if other == source)))
        for source, to in pairs
    )


def pieces_after(pieces, sides, other, target, found):
    after = []
    for machine, row in enumerate(found):
        rows = rows_of(other, sides, target, machine)
        cells = []
        for place in all_places(rows):
            cell = 0
            for wanted, _, source in row or []:
                if wanted == place:
                    places, own = pieces[source]
                    cell += own[all_places(places).index(place)]
            cells.append(cell)
        after.append((rows, tuple(cells)))
    return tuple(after)


def whole():
    return Dealing((), ())
