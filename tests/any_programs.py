"""Programs and arrays of every kind, made by counting on from a number, so that they are the same each time."""

from dealtarrays.arrays import Array, is_sides
from dealtarrays.errors import NoFit
from dealtarrays.programs import Program

KINDS = ["add", "sub", "mul", "mulsum", "sum", "scale", "spread", "turn", "shift", "pick", "put"]
NAMES = ["h", "i", "j", "k", "x"]


class Dice:
    """Numbers that look mixed up."""

    def __init__(self, number):
        self.state = number * 2654435761 + 12345

    def below(self, many):
        self.state = (self.state * 6364136223846793005 + 1442695040888963407) % 2 ** 64
        return (self.state >> 33) % many

    def one_of(self, row):
        return row[self.below(len(row))]

    def some_of(self, row):
        return tuple(member for member in row if self.below(2))


def any_sides(dice, most=3, largest=3):
    # One size for each name, so that most arrays can be added and multiplied.
    sizes = {"h": 2, "i": 3, "j": 2, "k": 4, "x": 1}
    names = [name for name in NAMES if dice.below(2)][:most]
    return tuple((name, min(sizes[name], largest + 1)) for name in names)


def any_array(dice, sides, low=-9, high=9):
    many = 1
    for _, size in sides:
        many *= size
    return Array(sides, [low + dice.below(high - low + 1) for _ in range(many)])


def any_step(dice, name, known):
    """A step that may fit to the known sides."""
    kind = dice.one_of(KINDS)
    a, b = dice.one_of(list(known)), dice.one_of(list(known))
    names = [side for side, _ in known[a]]
    both = sorted(set(names) | {side for side, _ in known[b]})
    side = dice.one_of(names) if names else "i"
    new = dice.one_of(NAMES)
    size = {"h": 2, "i": 3, "j": 2, "k": 4, "x": 1}[new]
    rest = {
        "add": (b,), "sub": (b,), "mul": (b,), "mulsum": (b, dice.some_of(both)), "sum": (dice.some_of(names),),
        "scale": (dice.below(9) - 4,), "spread": (new, size), "turn": (side, new), "shift": (side, dice.below(19) - 9),
        "pick": (side, dice.below(3)), "put": (new, size, dice.below(size)),
    }[kind]
    return (name, kind, a, *rest)


def any_program(number, inputs=3, steps=6, most_cells=200, most_sides=4):
    """A program; each number gives another one."""
    dice = Dice(number)
    found = tuple((f"v{at}", any_sides(dice)) for at in range(1 + dice.below(inputs)))
    program = Program(found, ())
    tries = 0
    while len(program.steps) < steps and tries < 200:
        tries += 1
        known = {name: program.sides_of(name) for name in program.names()}
        step = any_step(dice, f"s{len(program.steps)}", known)
        try:
            more = Program(program.inputs, (*program.steps, step))
        except NoFit:
            continue
        sides = more.sides_of(step[0])
        cells = 1
        for _, size in sides:
            cells *= size
        if is_sides(sides) and cells <= most_cells and len(sides) <= most_sides:
            program = more
    return program


def any_arrays(number, program):
    dice = Dice(number + 77)
    return tuple(any_array(dice, sides) for _, sides in program.inputs)
