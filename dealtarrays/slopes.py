"""The slopes of programs, which are programs again."""

from dealtarrays.programs import Program, operands


def slopes(program, name, seed):
    """A program that goes on to the slopes of the array name, and for each input the name of its slopes, or None."""
    sides = program.sides_of(name)
    book = Book(program, seed)
    found = {name: seed}
    # Whatever uses an array stands behind it, so that its slopes are complete before they are passed on.
    for step in reversed(program.steps):
        if step[0] in found:
            for at, used in enumerate(operands(step)):
                slope = _slope_passed_on(program, book, step, at, found[step[0]])
                found[used] = book.write("add", found[used], slope) if used in found else slope
    other = Program([*program.inputs, (seed, sides)], [*program.steps, *book.steps])
    return other, tuple([found.get(own) for own, _ in program.inputs])


class Book:
    """Steps that are written behind those of a program, each under a new name."""

    def __init__(self, program, seed):
        self.steps = []
        self._taken = [*program.names(), seed]
        self._count = 0

    def write(self, kind, *rest):
        """Writes a step, and returns the name of what it makes."""
        while f"d{self._count}" in self._taken:
            self._count += 1
        name = f"d{self._count}"
        self._count += 1
        self.steps.append((name, kind, *rest))
        return name


def _slope_passed_on(program, book, step, at, slope):
    """The name of the slopes by the operand at of a step, if slope is the name of those by what the step makes."""
    kind = step[1]
    used = operands(step)
    made, own = program.sides_of(step[0]), program.sides_of(used[at])
    if kind in ("mul", "mulsum"):
        other = used[1 - at]
        return _product_fitted(book, slope, other, made, program.sides_of(other), own)
    if kind == "scale":
        return book.write("scale", slope, step[3])
    if kind == "turn":
        return book.write("turn", slope, step[4], step[3])
    if kind == "shift":
        return book.write("shift", slope, step[3], -step[4])
    if kind == "pick":
        return book.write("put", slope, step[3], dict(own)[step[3]], step[4])
    if kind == "put":
        return book.write("pick", slope, step[3], step[5])
    fitted = _fitted(book, slope, made, own)
    return book.write("scale", fitted, -1) if kind == "sub" and at == 1 else fitted


def _fitted(book, slope, sides, own):
    """The slopes, which have these sides, summed and spread so that they have the own ones."""
    lost = _not_in(sides, own)
    if len(lost) > 0:
        slope = book.write("sum", slope, tuple([side for side, _ in lost]))
    return _spread(book, slope, _not_in(own, sides))


def _product_fitted(book, slope, other, sides, others, own):
    """The products of the slopes and the other operand, summed and spread so that they have the own sides."""
    both = sorted(set([*sides, *others]))
    lost = _not_in(both, own)
    product = book.write("mulsum", slope, other, tuple([side for side, _ in lost]))
    return _spread(book, product, _not_in(own, both))


def _spread(book, slope, sides):
    for side, size in sides:
        slope = book.write("spread", slope, side, size)
    return slope


def _not_in(sides, others):
    return [side for side in sides if side not in others]
