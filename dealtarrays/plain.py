"""Programs run as by one machine."""

from dealtarrays.arrays import Array
from dealtarrays.cells import cells_made
from dealtarrays.errors import BadInput
from dealtarrays.indexes import index_sides
from dealtarrays.programs import operands


def run_plain(program, arrays):
    """The arrays of the inputs and of all steps, in the order of their names."""
    check_arrays(program, arrays)
    found = {name: array for (name, _), array in zip(program.inputs, arrays)}
    for step in program.steps:
        found[step[0]] = _array_made(program, step, [found[name] for name in operands(step)])
    return tuple(found.values())


def check_arrays(program, arrays):
    """Raises BadInput for the first of the arrays that has not the sides of its input."""
    for number, (_, sides) in enumerate(program.inputs):
        if arrays[number].sides != sides:
            raise BadInput(number)


def _array_made(program, step, used):
    asked = dict(_all_places(index_sides(program, step)))
    pieces = [([row for _, row in _all_places(array.sides)], array.cells) for array in used]
    return Array(program.sides_of(step[0]), cells_made(program, step, asked, pieces))


def _all_places(sides):
    return [(side, tuple(range(size))) for side, size in sides]
