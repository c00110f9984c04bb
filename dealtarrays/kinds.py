"""The kinds of steps: what follows the kind in a step, and the sides of what it makes."""

from dealtarrays.arrays import is_sides
from dealtarrays.basics import is_integer, is_integer_within, is_row, is_row_of_words, is_word

# How many arrays a step of each kind uses.
OPERANDS = {
    "add": 2, "sub": 2, "mul": 2, "mulsum": 2, "sum": 1, "scale": 1,
    "spread": 1, "turn": 1, "shift": 1, "pick": 1, "put": 1,
}

# How many values stand behind the names of these arrays.
EXTRAS = {
    "add": 0, "sub": 0, "mul": 0, "mulsum": 1, "sum": 1, "scale": 1,
    "spread": 2, "turn": 2, "shift": 2, "pick": 2, "put": 3,
}


def _is_short_integer(value):
    """Whether value is an integer of at most 40 digits."""
    return is_integer(value) and -(10 ** 40) < value < 10 ** 40


def _is_name_in(name, table):
    """Whether any value is a key of a table of names; a list could not even be looked up."""
    return isinstance(name, str) and name in table


def _sides_of_all(operands):
    """All sides of the operands, or None if sides of the same name differ in size."""
    sizes = {}
    for sides in operands:
        for side, size in sides:
            if sizes.setdefault(side, size) != size:
                return None
    return sorted(sizes.items())


def _sides_without(sides, names):
    """The sides that are not in names, or None if names is no row of some of them."""
    if not is_row_of_words(names):
        return None
    sizes = dict(sides)
    if not all([name in sizes for name in names]):
        return None
    return [(side, size) for side, size in sides if side not in names]


def _sides_with(sides, new, size):
    """The sides and a new one, or None if it is not new; its size is not looked at."""
    if not is_word(new) or new in dict(sides):
        return None
    return sorted([*sides, (new, size)])


def _cellwise(operands, extras):
    return _sides_of_all(operands)


def _mulsum(operands, extras):
    sides = _sides_of_all(operands)
    if sides is None:
        return None
    return _sides_without(sides, extras[0])


def _sum(operands, extras):
    return _sides_without(operands[0], extras[0])


def _scale(operands, extras):
    return operands[0] if _is_short_integer(extras[0]) else None


def _spread(operands, extras):
    new, size = extras
    return _sides_with(operands[0], new, size)


def _turn(operands, extras):
    old, new = extras
    sizes = dict(operands[0])
    # The old side is still among the sides here, for it is no new name of itself.
    if not _is_name_in(old, sizes) or not is_word(new) or new in sizes:
        return None
    return sorted([(new if side == old else side, size) for side, size in operands[0]])


def _shift(operands, extras):
    side, by = extras
    if not _is_name_in(side, dict(operands[0])) or not _is_short_integer(by):
        return None
    return operands[0]


def _pick(operands, extras):
    side, at = extras
    sizes = dict(operands[0])
    if not _is_name_in(side, sizes) or not is_integer_within(at, 0, sizes[side] - 1):
        return None
    return _sides_without(operands[0], (side,))


def _put(operands, extras):
    new, size, at = extras
    if not is_integer(size) or not is_integer_within(at, 0, size - 1):
        return None
    return _sides_with(operands[0], new, size)


SIDES = {
    "add": _cellwise, "sub": _cellwise, "mul": _cellwise, "mulsum": _mulsum, "sum": _sum, "scale": _scale,
    "spread": _spread, "turn": _turn, "shift": _shift, "pick": _pick, "put": _put,
}


def sides_made(step, known):
    """The sides of what a step makes, or None if it is no step on the arrays in known.

    step is any value, of which the name is not looked at; known has the sides for each name.
    """
    if not is_row(step) or len(step) < 2:
        return None
    kind = step[1]
    if not isinstance(kind, str) or kind not in OPERANDS:
        return None
    end = 2 + OPERANDS[kind]
    if len(step) != end + EXTRAS[kind]:
        return None
    if not all([_is_name_in(name, known) for name in step[2:end]]):
        return None
    rule = SIDES[kind]
    sides = rule([known[name] for name in step[2:end]], step[end:])
    return tuple(sides) if is_sides(sides) else None
