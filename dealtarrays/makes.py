"""Steps made by machines, each of its pieces of the operands."""

from dealtarrays.cells import cells_made
from dealtarrays.grids import Dealing, fits, places_of
from dealtarrays.indexes import index_sides, kept_whole, summed_over
from dealtarrays.programs import operands


def may_deal(program, number, dealing, grid):
    """Whether the machines of the grid can make the step of this number by this dealing."""
    step = program.steps[number]
    if len(dealing.parts) > 0 or kept_whole(step) in [cut[0] for cut in dealing.cuts]:
        return False
    return fits(dealing, index_sides(program, step), grid)


def operand_dealing(program, number, dealing, at):
    """The dealing in which the operand at of the step of this number is needed."""
    step = program.steps[number]
    own = dict(program.sides_of(operands(step)[at]))
    cuts = [(_side_of_operand(step, side), kind, direction) for side, kind, direction in dealing.cuts]
    return Dealing(sorted([cut for cut in cuts if cut[0] in own]), ())


def made_dealing(program, number, dealing):
    """The dealing of what the step of this number makes."""
    step = program.steps[number]
    made = dict(program.sides_of(step[0]))
    cuts = [cut for cut in dealing.cuts if cut[0] in made]
    parts = sorted([direction for side, _, direction in dealing.cuts if side in summed_over(step)])
    return Dealing(cuts, parts)


def make_piece(program, number, dealing, grid, machine, pieces):
    """The piece of what the step of this number makes that a machine has, from its pieces of the operands."""
    step = program.steps[number]
    sides = index_sides(program, step)
    rows = places_of(dealing, sides, grid, machine)
    asked = {side: row for (side, _), row in zip(sides, rows)}
    made = tuple([asked[side] for side, _ in program.sides_of(step[0])])
    return made, tuple(cells_made(program, step, asked, pieces))


def _side_of_operand(step, side):
    return step[3] if step[1] == "turn" and side == step[4] else side
