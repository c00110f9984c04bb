"""The cells that steps make of pieces of their operands.

A piece is a pair: for each side a row of places, and a cell for each combination of them.
"""

from dealtarrays.basics import product_of
from dealtarrays.indexes import summed_over
from dealtarrays.programs import operands


def cells_made(program, step, asked, pieces):
    """The cells that a step makes at the places that are asked for, in ascending order.

    asked has the places for each side of what is made, and for each side that is summed over.
    """
    made = [(side, asked[side]) for side, _ in program.sides_of(step[0])]
    gone = [(side, asked[side]) for side in summed_over(step)]
    rows = [_cells_seen(step, program.sides_of(name), piece, made + gone)
            for name, piece in zip(operands(step), pieces)]
    cells = _worked_out(step, rows)
    many = product_of([len(row) for _, row in made])
    each = product_of([len(row) for _, row in gone])
    return [sum(cells[at * each:(at + 1) * each]) for at in range(many)]


def _cells_seen(step, sides, piece, axes):
    """For each combination of places on the axes, the last axis fastest, the cell of the operand."""
    rows, cells = piece
    jumps = _jumps(sides, rows)
    starts = [_start(step, jumps)]
    for side, row in axes:
        far = [_jump(step, jumps, side, place, len(cells)) for place in row]
        starts = [start + more for start in starts for more in far]
    return [cells[start] if start < len(cells) else 0 for start in starts]


def _jumps(sides, rows):
    """For each side of a piece, for each of its places, how far its cells stand behind those of the first place."""
    found = {}
    span = 1
    for (side, _), row in reversed(list(zip(sides, rows))):
        found[side] = {place: at * span for at, place in enumerate(row)}
        span = span * len(row)
    return found


def _start(step, jumps):
    return jumps[step[3]][step[4]] if step[1] == "pick" else 0


def _jump(step, jumps, side, place, beyond):
    """How far the operand's cell is moved by this place on this axis."""
    kind = step[1]
    if kind == "put" and side == step[3]:
        # Behind the last cell there are only zeros.
        return 0 if place == step[5] else beyond
    if kind == "turn" and side == step[4]:
        return jumps[step[3]][place]
    if kind == "shift" and side == step[3]:
        return jumps[side][(place - step[4]) % len(jumps[side])]
    return jumps[side][place] if side in jumps else 0


def _worked_out(step, rows):
    """What a step does with the cells of its operands that belong together."""
    kind = step[1]
    if kind == "add":
        return [a + b for a, b in zip(rows[0], rows[1])]
    if kind == "sub":
        return [a - b for a, b in zip(rows[0], rows[1])]
    if kind in ("mul", "mulsum"):
        return [a * b for a, b in zip(rows[0], rows[1])]
    if kind == "scale":
        return [a * step[3] for a in rows[0]]
    return rows[0]
