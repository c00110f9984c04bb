"""Programs written as lines of text, and read from them again."""

from dealtarrays.basics import is_row
from dealtarrays.errors import InvalidText, NoFit
from dealtarrays.kinds import OPERANDS
from dealtarrays.programs import NO_NAME, Program, are_inputs

MOST_DIGITS = 40


def write_program(program):
    """The program as text: a line for each input, then a line for each step."""
    lines = [_input_line(name, sides) for name, sides in program.inputs]
    lines.extend([" ".join([_written(part) for part in step]) for step in program.steps])
    return "".join([line + "\n" for line in lines])


def read_program(text):
    """The program that is written as this text."""
    if not isinstance(text, str):
        raise InvalidText(text, 0)
    lines = text.split("\n")
    inputs = _inputs_read(lines[:-1])
    steps = _steps_read(lines[len(inputs):-1])
    read = len(inputs) + len(steps)
    try:
        program = Program(inputs, steps)
    except NoFit as e:
        raise InvalidText(text, len(inputs) + e.number)
    # Behind the last line feed there is nothing, so that one line is left.
    if read < len(lines) - 1 or lines[-1] != "":
        raise InvalidText(text, read)
    return program


def _input_line(name, sides):
    return " ".join([NO_NAME, name] + [f"{side}:{size}" for side, size in sides])


def _written(part):
    if not is_row(part):
        return str(part)
    return ",".join(part) if len(part) > 0 else "-"


def _inputs_read(lines):
    """The inputs in the first lines, up to the first line with which they are none."""
    found = []
    for line in lines:
        read = _input_read(line)
        if read is None or not are_inputs([*found, read]):
            return found
        found.append(read)
    return found


def _input_read(line):
    """The name and the sides in a line, or None if it has not the form of an input."""
    parts = line.split(" ")
    if len(parts) < 2 or parts[0] != NO_NAME:
        return None
    return parts[1], [_side_read(part) for part in parts[2:]]


def _side_read(part):
    side, _, size = part.partition(":")
    return side, _integer_read(size)


def _steps_read(lines):
    """The steps in the first lines, up to the first line that has not the form of a step."""
    found = []
    for line in lines:
        step = _step_read(line)
        if step is None:
            return found
        found.append(step)
    return found


def _step_read(line):
    """The step in a line, or None if it has not the form of one; whether it fits is not looked at."""
    parts = line.split(" ")
    if len(parts) < 2 or parts[1] not in READERS:
        return None
    kind = parts[1]
    end = 2 + OPERANDS[kind]
    readers = READERS[kind]
    if len(parts) != end + len(readers):
        return None
    return parts[:end] + [reader(part) for reader, part in zip(readers, parts[end:])]


def _word_read(part):
    return part


def _names_read(part):
    return part.split(",") if part != "-" else []


def _integer_read(part):
    """The integer that is written so, or None."""
    figures = part.removeprefix("-")
    if not 1 <= len(figures) <= MOST_DIGITS or not all(["0" <= figure <= "9" for figure in figures]):
        return None
    if figures[0] == "0" and part != "0":
        return None
    return int(part)


# What stands behind the operands in a line of each kind.
READERS = {
    "add": (), "sub": (), "mul": (), "mulsum": (_names_read,), "sum": (_names_read,), "scale": (_integer_read,),
    "spread": (_word_read, _integer_read), "turn": (_word_read, _word_read), "shift": (_word_read, _integer_read),
    "pick": (_word_read, _integer_read), "put": (_word_read, _integer_read, _integer_read),
}
