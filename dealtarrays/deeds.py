"""Deeds: what a machine says, hears and does in a round of a plan."""

from dealtarrays.basics import combined
from dealtarrays.exchanges import wants_in_exchange
from dealtarrays.grids import places_of_all
from dealtarrays.makes import make_piece
from dealtarrays.plans import MAKE


class Making:
    """A round in which each machine makes its piece of what a step makes."""

    def __init__(self, plan, number):
        self._plan = plan
        self._number = number

    def receivers(self, machine):
        """The machines to which a machine says a letter: none."""
        return []

    def senders(self, machine):
        """The machines from which a machine wants a letter: none."""
        return []

    def new_piece(self, machine, used, heard):
        """The piece that a machine has behind the round, from those that it uses."""
        plan = self._plan
        return make_piece(plan.program, self._number, plan.dealt[self._number], plan.grid, machine, used)


class Sending:
    """A round in which the machines lead an array to another dealing by one exchange."""

    def __init__(self, plan, name, dealing, other):
        sides = plan.program.sides_of(name)
        self._rows = places_of_all(other, sides, plan.grid)
        # For each machine, by those that it asks, itself among them, the places of which it wants a cell, in order.
        self._asked = [_by_source(wants_in_exchange(sides, dealing, other, plan.grid, machine))
                       for machine in range(plan.grid.many)]

    def receivers(self, machine):
        """The machines to which a machine says a letter, ascending."""
        return [to for to, asked in enumerate(self._asked) if to != machine and machine in asked]

    def senders(self, machine):
        """The machines from which a machine wants a letter, ascending."""
        return [source for source in sorted(self._asked[machine]) if source != machine]

    def numbers(self, machine, to, used):
        """The numbers of the letter from a machine to another one."""
        cells = _cells_by_place(used[0])
        return tuple([cells[place] for place in self._asked[to][machine]])

    def new_piece(self, machine, used, heard):
        """The piece that a machine has behind the round; heard has the numbers of the letters by their senders."""
        rows = self._rows[machine]
        sums = {place: 0 for place in combined(rows)}
        for source, asked in self._asked[machine].items():
            numbers = heard[source] if source != machine else self.numbers(machine, machine, used)
            for place, number in zip(asked, numbers):
                sums[place] += number
        return rows, tuple(sums.values())


def deeds_of(plan):
    """The deeds of the rounds of a plan, in order."""
    numbers = {step[0]: number for number, step in enumerate(plan.program.steps)}
    found = []
    for deed in plan.rounds:
        if deed[0] == MAKE:
            found.append(Making(plan, numbers[deed[1]]))
        else:
            _, name, dealing, other = deed
            found.append(Sending(plan, name, dealing, other))
    return found


def _by_source(wants):
    found = {}
    for place, _, source in wants:
        found.setdefault(source, []).append(place)
    return found


def _cells_by_place(piece):
    rows, cells = piece
    return dict(zip(combined(rows), cells))
