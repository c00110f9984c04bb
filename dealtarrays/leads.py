"""Leads: in which dealings the arrays of a program are given, made, and needed."""

from dealtarrays.makes import made_dealing, operand_dealing
from dealtarrays.programs import operands


def leads_of(program, given, dealt, wanted):
    """What has to be led: for each step a row of (name, dealing, other), and at the end a row for what is wanted."""
    had = {name: dealing for (name, _), dealing in zip(program.inputs, given)}
    rows = []
    for number, step in enumerate(program.steps):
        rows.append([(name, had[name], other) for name, other in needs_of(program, number, dealt[number])])
        had[step[0]] = made_dealing(program, number, dealt[number])
    rows.append([(name, had[name], other) for name, other in wanted])
    return rows


def needs_of(program, number, dealing):
    """For each operand of a step its name, and the dealing in which it is needed."""
    names = operands(program.steps[number])
    return [(name, operand_dealing(program, number, dealing, at)) for at, name in enumerate(names)]
