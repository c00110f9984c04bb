"""A reckoning of its own for what programs make, cell by cell, with every place told by the names of its sides.

An array is a pair here: the sizes of its sides, and its cells by places that are tuples of pairs (side, place).
"""

import itertools

from dealtarrays.arrays import Array


class Dual:
    """A number and its slope; products drop what is of a higher order."""

    def __init__(self, value, slope=0):
        self.value = value
        self.slope = slope

    def __add__(self, other):
        return Dual(self.value + other.value, self.slope + other.slope)

    def __sub__(self, other):
        return Dual(self.value - other.value, self.slope - other.slope)

    def __mul__(self, other):
        return Dual(self.value * other.value, self.value * other.slope + self.slope * other.value)


def named_places(sizes):
    names = sorted(sizes)
    for places in itertools.product(*(range(sizes[name]) for name in names)):
        yield tuple(zip(names, places))


def only(place, sizes):
    return tuple((side, at) for side, at in place if side in sizes)


def moved(place, side, other, at):
    """The place with the pair (other, at) instead of the one of side."""
    return tuple(sorted([(name, old) for name, old in place if name != side] + [(other, at)]))


def total(values, zero):
    for value in values:
        zero = zero + value
    return zero


def pairwise(first, second, work):
    sizes = {**first[0], **second[0]}
    return sizes, {
        place: work(first[1][only(place, first[0])], second[1][only(place, second[0])]) for place in named_places(sizes)
    }


def summed(array, names, zero):
    sizes = {side: size for side, size in array[0].items() if side not in names}
    gone = {side: size for side, size in array[0].items() if side in names}
    return sizes, {
        place: total((array[1][tuple(sorted(place + more))] for more in named_places(gone)), zero)
        for place in named_places(sizes)
    }


def step_made(step, known, number=lambda value: value):
    """What a step makes of the known arrays; number makes a cell of an integer."""
    kind, first = step[1], known[step[2]]
    sizes, cells = first
    if kind == "add":
        return pairwise(first, known[step[3]], lambda a, b: a + b)
    if kind == "sub":
        return pairwise(first, known[step[3]], lambda a, b: a - b)
    if kind == "mul":
        return pairwise(first, known[step[3]], lambda a, b: a * b)
    if kind == "mulsum":
        return summed(pairwise(first, known[step[3]], lambda a, b: a * b), step[4], number(0))
    if kind == "sum":
        return summed(first, step[3], number(0))
    if kind == "scale":
        return sizes, {place: cell * number(step[3]) for place, cell in cells.items()}
    if kind == "spread":
        more = {**sizes, step[3]: step[4]}
        return more, {place: cells[only(place, sizes)] for place in named_places(more)}
    if kind == "turn":
        more = {(step[4] if side == step[3] else side): size for side, size in sizes.items()}
        return more, {moved(place, step[3], step[4], dict(place)[step[3]]): cell for place, cell in cells.items()}
    if kind == "shift":
        side, by = step[3], step[4]
        return sizes, {moved(place, side, side, (dict(place)[side] + by) % sizes[side]): cell
                       for place, cell in cells.items()}
    if kind == "pick":
        less = {side: size for side, size in sizes.items() if side != step[3]}
        return less, {only(place, less): cell for place, cell in cells.items() if dict(place)[step[3]] == step[4]}
    more = {**sizes, step[3]: step[4]}
    return more, {
        place: cells[only(place, sizes)] if dict(place)[step[3]] == step[5] else number(0)
        for place in named_places(more)
    }


def as_known(sides, cells):
    sizes = dict(sides)
    return sizes, dict(zip(named_places(sizes), cells))


def as_array(known):
    sizes, cells = known
    return Array(tuple(sorted(sizes.items())), tuple(cells.values()))


def run(program, rows, number=lambda value: value):
    """All arrays of a program by name, from a row of cells for each input."""
    known = {name: as_known(sides, cells) for (name, sides), cells in zip(program.inputs, rows)}
    for step in program.steps:
        sizes, cells = step_made(step, known, number)
        known[step[0]] = sizes, {place: cells[place] for place in named_places(sizes)}
    return known


def arrays_of(program, arrays):
    """What run_plain should return."""
    known = run(program, [array.cells for array in arrays])
    return tuple(as_array(known[name]) for name in program.names())
