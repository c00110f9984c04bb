"""Plans: in which dealings the steps of a program are made, and how what they use is led there."""

from dealtarrays.errors import NoDealing
from dealtarrays.exchanges import numbers_sent
from dealtarrays.leads import leads_of
from dealtarrays.makes import made_dealing, may_deal
from dealtarrays.ways import Ways

SEND = "send"
MAKE = "make"


class Plan:
    """What the machines of a grid do, round by round, to run a program whose steps are dealt so.

    Beside the rounds it tells which pieces they use. A machine's pieces are counted: those of the inputs, then what
    each round gives it. uses has the numbers of the pieces that each round uses, ends those that are wanted at the
    end, and pieces the name and the dealing of each.
    """

    def __init__(self, program, grid, given, dealt, wanted, *, by_roads=False):
        _check_plan(program, grid, dealt, wanted)
        self.program = program
        self.grid = grid
        self.given = tuple(given)
        self.dealt = tuple(dealt)
        self.wanted = tuple([tuple(pair) for pair in wanted])
        self.by_roads = by_roads
        draft = Draft(program, Ways(grid, by_roads), self.given)
        *rows, last = leads_of(program, self.given, self.dealt, self.wanted)
        for number, leads in enumerate(rows):
            used = [draft.lead(name, dealing, other) for name, dealing, other in leads]
            draft.make(program.steps[number][0], made_dealing(program, number, self.dealt[number]), used)
        self.ends = tuple([draft.lead(name, dealing, other) for name, dealing, other in last])
        self.cost = draft.cost
        self.rounds = tuple(draft.rounds)
        self.uses = tuple(draft.uses)
        self.pieces = tuple(draft.pieces)


class Draft:
    """Rounds that are written one behind another, with the pieces that they use and give."""

    def __init__(self, program, ways, given):
        self.cost = 0
        self.rounds = []
        self.uses = []
        self.pieces = [(name, dealing) for (name, _), dealing in zip(program.inputs, given)]
        self._program = program
        self._ways = ways
        self._first = {name: at for at, (name, _) in enumerate(program.inputs)}

    def lead(self, name, dealing, other):
        """Leads an array, as it was given or made, to another dealing; returns the number of the last piece."""
        cost, road = self._ways.road(self._program.sides_of(name), dealing, other)
        self.cost += cost
        at = self._first[name]
        for one, following in zip(road, road[1:]):
            at = self._write((SEND, name, one, following), (at,), (name, following))
        return at

    def make(self, name, dealing, used):
        """Makes an array, in this dealing, of the pieces with these numbers."""
        self._first[name] = self._write((MAKE, name), tuple(used), (name, dealing))

    def _write(self, deed, used, piece):
        self.rounds.append(deed)
        self.uses.append(used)
        self.pieces.append(piece)
        return len(self.pieces) - 1


def piece_rounds(plan):
    """How many numbers each round of a plan sends."""
    return tuple([_numbers_of(plan, deed) for deed in plan.rounds])


def _numbers_of(plan, deed):
    if deed[0] == MAKE:
        return 0
    _, name, dealing, other = deed
    return numbers_sent(plan.program.sides_of(name), dealing, other, plan.grid)


def _check_plan(program, grid, dealt, wanted):
    for number in range(len(program.steps)):
        if not may_deal(program, number, dealt[number], grid):
            raise NoDealing(number)
    for name, _ in wanted:
        # It raises NoName for a name that is none.
        program.sides_of(name)
