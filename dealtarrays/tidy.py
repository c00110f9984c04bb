"""Programs made of programs: tidied, for each place of a further side, and split in two."""

from dealtarrays.arrays import is_sides
from dealtarrays.errors import InvalidSides, NoName, TooMany
from dealtarrays.programs import Program, operands

MOST_PASSED_ON = 4


def tidied(program, wanted):
    """The program with only the steps that wanted needs, none like an earlier one, and the names for wanted there."""
    _check_names(program, wanted)
    needed = _names_needed(program, wanted)
    stands = {name: name for name, _ in program.inputs}
    first = {}
    steps = []
    for step in program.steps:
        if step[0] in needed:
            renamed = _renamed(step, stands)
            stands[step[0]] = first.setdefault(_likeness(renamed), step[0])
            if stands[step[0]] == step[0]:
                steps.append(renamed)
    return Program(program.inputs, steps), tuple([stands[name] for name in wanted])


def for_each(program, side, size, names):
    """The program whose inputs in names have this side as well."""
    known = dict(program.inputs)
    for name in names:
        if not isinstance(name, str) or name not in known:
            raise NoName(name)
    for name in names:
        known[name] = tuple(sorted([*known[name], (side, size)]))
        if not is_sides(known[name]):
            raise InvalidSides(known[name])
    return Program(list(known.items()), program.steps)


def split_program(program, number, wanted):
    """The program of the steps below number, and that of the others, which goes on from arrays of the first one."""
    _check_names(program, wanted)
    first = Program(program.inputs, program.steps[:number])
    steps = program.steps[number:]
    used = [name for step in steps for name in operands(step)] + list(wanted)
    names = [name for name in first.names() if name in used]
    if len(names) > MOST_PASSED_ON:
        raise TooMany(len(names))
    return first, Program([(name, program.sides_of(name)) for name in names], steps)


def _check_names(program, names):
    for name in names:
        # It raises NoName for a name that is none.
        program.sides_of(name)


def _names_needed(program, wanted):
    """The names of all arrays that are needed for wanted, each with True."""
    found = {name: True for name in wanted}
    for step in reversed(program.steps):
        if step[0] in found:
            for name in operands(step):
                found[name] = True
    return found


def _renamed(step, stands):
    """The step with other names for its operands."""
    used = operands(step)
    return step[:2] + tuple([stands[name] for name in used]) + step[2 + len(used):]


def _likeness(step):
    """What steps have in common that are alike."""
    if step[1] in ("add", "mul"):
        return step[1:2] + tuple(sorted(operands(step)))
    return step[1:]
