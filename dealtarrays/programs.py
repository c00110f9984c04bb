"""Programs: inputs, and steps that each make an array of earlier ones."""

from dealtarrays.arrays import is_sides
from dealtarrays.basics import as_tuples, is_row, is_word
from dealtarrays.errors import InvalidInputs, NoFit, NoName
from dealtarrays.kinds import OPERANDS, sides_made

MOST_INPUTS = 6

# A line of a written program that begins with this word is an input.
NO_NAME = "input"


class Program:
    """A program, in which each step fits to the inputs and to the steps before it."""

    def __init__(self, inputs, steps):
        if not are_inputs(inputs):
            raise InvalidInputs(inputs)
        if not is_row(steps):
            raise NoFit(0)
        self.inputs = tuple([(name, as_tuples(sides)) for name, sides in inputs])
        self._sides = dict(self.inputs)
        for number, step in enumerate(steps):
            self._add_step(number, step)
        self.steps = tuple([as_tuples(step) for step in steps])

    def names(self):
        """The names of the inputs and of what the steps make, in order."""
        return tuple(self._sides)

    def sides_of(self, name):
        """The sides of the array of this name."""
        if not isinstance(name, str) or name not in self._sides:
            raise NoName(name)
        return self._sides[name]

    def _add_step(self, number, step):
        sides = sides_made(step, self._sides)
        if sides is None or not _is_new_name(step[0], self._sides):
            raise NoFit(number)
        self._sides[step[0]] = sides


def operands(step):
    """The names of the arrays that a step uses, in the order in which they stand there."""
    return tuple(step[2:2 + OPERANDS[step[1]]])


def are_inputs(inputs):
    """Whether any value is inputs of a program."""
    if not is_row(inputs) or len(inputs) > MOST_INPUTS:
        return False
    known = {}
    for pair in inputs:
        if not is_row(pair) or len(pair) != 2:
            return False
        if not _is_new_name(pair[0], known) or not is_sides(pair[1]):
            return False
        known[pair[0]] = True
    return True


def _is_new_name(name, known):
    return is_word(name) and name != NO_NAME and name not in known
