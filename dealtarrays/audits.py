"""Audits: whether runs are as they must be."""

from dealtarrays.basics import combined, is_integer_within
from dealtarrays.errors import Quarrel
from dealtarrays.exchanges import exchanged, letters_of
from dealtarrays.leads import needs_of
from dealtarrays.makes import make_piece
from dealtarrays.pieces import cut_array
from dealtarrays.plain import check_arrays, run_plain
from dealtarrays.plans import SEND


def faults(run):
    """The words for what is wrong with a run as it stands; there are none for any run."""
    found = []
    if not all([_is_round_right(run, machine) for machine in run.machines]):
        found.append("round")
    if not all([_is_got_right(run, machine) for machine in run.machines]):
        found.append("got")
    if run.is_done() and not _is_result_right(run):
        found.append("piece")
    return tuple(found)


def is_due(plan, arrays, letter):
    """Whether a letter (round, from, to, numbers) is said in runs of this plan on these arrays."""
    check_arrays(plan.program, arrays)
    number, source, to, numbers = letter
    if not is_integer_within(number, 0, len(plan.rounds) - 1) or plan.rounds[number][0] != SEND:
        return False
    wants = _wants_in_round(plan, number, source, to)
    if len(wants) == 0:
        return False
    known = dict(zip(plan.program.names(), run_plain(plan.program, arrays)))
    rows, cells = _pieces_of_all(plan, known, plan.uses[number][0])[source]
    by_place = dict(zip(combined(rows), cells))
    return tuple(numbers) == tuple([by_place[place] for place, _ in wants])


def _is_round_right(run, machine):
    """Whether a machine has told no letter of a later round than its own."""
    return all([number <= run.round_of(machine.number) for number, _ in machine.stand.told])


def _is_got_right(run, machine):
    """Whether a machine has got no letter with other numbers than its sender, as it stands, has told."""
    for (number, source), numbers in machine.stand.got.items():
        # A sender that fell may not have told it yet, and then there is nothing to compare.
        if run.machines[source].stand.told.get((number, machine.number), numbers) != numbers:
            return False
    return True


def _is_result_right(run):
    """Whether the pieces of what is wanted are those of the arrays of the plain program."""
    program = run.plan.program
    known = dict(zip(program.names(), run_plain(program, run.arrays)))
    try:
        return all([run.joined(name) == known[name] for name, _ in run.plan.wanted])
    except Quarrel:
        return False


def _wants_in_round(plan, number, source, to):
    """What a machine wants of another one in a round that sends."""
    _, name, dealing, other = plan.rounds[number]
    for *pair, wants in letters_of(plan.program.sides_of(name), dealing, other, plan.grid):
        if pair == [source, to]:
            return wants
    return ()


def _pieces_of_all(plan, known, at):
    """The pieces of all machines with the number at in plan.pieces; known has the arrays of the plain program."""
    name, dealing = plan.pieces[at]
    number = at - len(plan.program.inputs)
    if number < 0:
        return cut_array(known[name], dealing, plan.grid)
    if plan.rounds[number][0] != SEND:
        return _pieces_made(plan, known, plan.program.names().index(name) - len(plan.program.inputs))
    before = _pieces_of_all(plan, known, plan.uses[number][0])
    _, _, dealing, other = plan.rounds[number]
    return exchanged(before, plan.program.sides_of(name), dealing, other, plan.grid)


def _pieces_made(plan, known, number):
    """The pieces that all machines make of the step of this number."""
    program, grid, dealing = plan.program, plan.grid, plan.dealt[number]
    # Operands are needed without parts, so that their pieces are those of the plain arrays.
    used = [cut_array(known[name], needed, grid) for name, needed in needs_of(program, number, dealing)]
    return [make_piece(program, number, dealing, grid, machine, [pieces[machine] for pieces in used])
            for machine in range(grid.many)]
