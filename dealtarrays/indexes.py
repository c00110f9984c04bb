"""The sides along which a step works: its index names."""

from dealtarrays.programs import operands


def summed_over(step):
    """The names of the sides that a step sums over."""
    return step[-1] if step[1] in ("mulsum", "sum") else ()


def kept_whole(step):
    """The side that a step shifts or picks, or None if it does neither."""
    return step[3] if step[1] in ("shift", "pick") else None


def index_sides(program, step):
    """The index names of a step with their sizes, ascending."""
    sizes = dict(program.sides_of(step[0]))
    for name in operands(step):
        for side, size in program.sides_of(name):
            if side in summed_over(step) or side == kept_whole(step):
                sizes[side] = size
    return tuple(sorted(sizes.items()))
