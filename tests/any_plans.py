"""Plans of every kind, made by counting on from a number, and rows of deeds for runs of them."""

from any_programs import Dice, any_arrays, any_program, any_sides, any_step
from dealtarrays.errors import NoFit
from dealtarrays.grids import Grid, dealings
from dealtarrays.makes import may_deal
from dealtarrays.programs import Program, operands

PLAN_GRIDS = [
    Grid((("x", 2),)), Grid((("x", 3),)), Grid((("x", 2), ("y", 2))), Grid((("x", 1),)), Grid((("x", 2), ("y", 3))),
    Grid((("x", 4),)), Grid((("x", 3), ("y", 2))), Grid((("x", 1), ("y", 2))),
]
# Those on which roads of several exchanges are sought.
ROAD_GRIDS = [grid for grid in PLAN_GRIDS if grid.many <= 4]


def index_sides(program, number):
    """The index names of a step with their sizes, from all sides of operands and of what is made."""
    step = program.steps[number]
    sizes = {}
    for name in (*operands(step), step[0]):
        sizes.update(dict(program.sides_of(name)))
    if step[1] == "turn":
        del sizes[step[3]]
    return tuple(sorted(sizes.items()))


def all_step_dealings(program, number, grid):
    return [dealing for dealing in dealings(index_sides(program, number), grid)
            if dealing.parts == () and may_deal(program, number, dealing, grid)]


def any_plan(number, steps=5, by_roads=False, grid=None, cells=30, inputs=3):
    """The arguments of a plan by their names."""
    dice = Dice(number + 3)
    if by_roads:
        program = any_program(number, inputs=inputs, steps=steps, most_cells=9, most_sides=2)
        # Inputs may have more sides than roads are sought for.
        if any(len(program.sides_of(name)) > 2 or cells_of(program, name) > 9 for name in program.names()):
            return any_plan(number + 1000, steps, by_roads, grid, cells, inputs)
    else:
        program = any_program(number, inputs=inputs, steps=steps, most_cells=cells, most_sides=3)
    grid = grid or dice.one_of(ROAD_GRIDS if by_roads else PLAN_GRIDS)
    names = [name for name in program.names() if dice.below(2)]
    if dice.below(2):
        names.reverse()
    return {
        "program": program,
        "grid": grid,
        "given": tuple(dice.one_of(dealings(sides, grid)) for _, sides in program.inputs),
        "dealt": tuple(dice.one_of(all_step_dealings(program, at, grid)) for at in range(len(program.steps))),
        "wanted": tuple((name, dice.one_of(dealings(program.sides_of(name), grid))) for name in names),
        "by_roads": by_roads,
    }


def cells_of(program, name):
    many = 1
    for _, size in program.sides_of(name):
        many *= size
    return many


def any_plan_arrays(number, plan):
    return any_arrays(number, plan["program"])


def any_tree(number, steps=3, sides=2, cells=9, grid=None, inputs=3):
    """The arguments of a best plan for a tree by their names."""
    dice = Dice(number + 11)
    grid = grid or dice.one_of(ROAD_GRIDS)
    found = tuple((f"v{at}", any_sides(dice, most=sides)) for at in range(1 + dice.below(inputs)))
    program, free, tries = Program(found, ()), [name for name, _ in found], 0
    while len(program.steps) < steps and tries < 300:
        tries += 1
        name = f"s{len(program.steps)}"
        step = any_step(dice, name, {name: program.sides_of(name) for name in free})
        used = operands(step)
        if len(set(used)) < len(used):
            continue
        try:
            more = Program(program.inputs, (*program.steps, step))
        except NoFit:
            continue
        if len(more.sides_of(name)) <= sides and cells_of(more, name) <= cells:
            program, free = more, [other for other in free if other not in used] + [name]
    if any(cells_of(program, name) > cells for name in program.names()):
        return any_tree(number + 1000, steps, sides, cells, grid, inputs)
    if dice.below(2):
        free.reverse()
    return {
        "program": program,
        "grid": grid,
        "given": tuple(dice.one_of(dealings(sides, grid)) for _, sides in program.inputs),
        "wanted": tuple((name, dice.one_of(dealings(program.sides_of(name), grid))) for name in free),
    }


def many_rows(program, grid):
    """How many rows of step dealings there are."""
    many = 1
    for number in range(len(program.steps)):
        many *= len(all_step_dealings(program, number, grid))
    return many
