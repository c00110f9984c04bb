"""Runs: the machines of a grid run a plan, and send letters to each other."""

from dealtarrays.basics import is_integer_within
from dealtarrays.deeds import deeds_of
from dealtarrays.errors import NoLetter, NoName, NotDone
from dealtarrays.machines import Machine
from dealtarrays.pieces import cut_array, join_pieces
from dealtarrays.plain import check_arrays


class Run:
    """A run of a plan on arrays: its machines, and the letters that are on the way between them."""

    def __init__(self, plan, arrays):
        check_arrays(plan.program, arrays)
        self.plan = plan
        self.arrays = tuple(arrays)
        given = [cut_array(array, dealing, plan.grid) for array, dealing in zip(self.arrays, plan.given)]
        deeds = deeds_of(plan)
        self.machines = [Machine(number, deeds, plan.uses, [pieces[number] for pieces in given])
                         for number in range(plan.grid.many)]
        self._way = []
        for machine in self.machines:
            machine.go_on()

    def post(self, machine):
        """Puts all letters that a machine has said so far on the way."""
        told = self._machine(machine).stand.told
        self._way.extend([(number, machine, to, numbers) for (number, to), numbers in told.items()])

    def letters(self):
        """The letters on the way, each as (round, from, to)."""
        return tuple([letter[:3] for letter in self._way])

    def __len__(self):
        return len(self._way)

    def deliver(self, number):
        """Takes a letter from the way to its receiver; returns whether it was new there."""
        at, source, to, numbers = self._take(number)
        return self.machines[to].receive(at, source, numbers)

    def double(self, number):
        """Puts a letter on the way once more."""
        self._check_letter(number)
        self._way.append(self._way[number])

    def lose(self, number):
        """Takes a letter from the way, and nobody gets it."""
        self._take(number)

    def round_of(self, machine):
        """The number of the round at which a machine is."""
        return self._machine(machine).present_round()

    def keep(self, machine):
        """A machine keeps its stand."""
        self._machine(machine).keep()

    def fall(self, machine):
        """A machine goes back to what it kept last, and on from there."""
        self._machine(machine).fall()

    def is_done(self):
        """Whether all machines are done."""
        return all([machine.is_done() for machine in self.machines])

    def calm(self):
        """Posts and delivers all letters, until none is new."""
        is_new = True
        while is_new:
            for machine in range(len(self.machines)):
                self.post(machine)
            is_new = self._deliver_all()

    def piece(self, machine, name):
        """The piece that a machine has of what is wanted under a name."""
        found = self._machine(machine)
        at = self._place_wanted(name)
        if not found.is_done():
            raise NotDone(machine)
        return found.stand.pieces[self.plan.ends[at]]

    def joined(self, name):
        """What is wanted under a name, joined of the pieces of all machines."""
        _, dealing = self.plan.wanted[self._place_wanted(name)]
        pieces = [self.piece(machine, name) for machine in range(len(self.machines))]
        return join_pieces(pieces, self.plan.program.sides_of(name), dealing, self.plan.grid)

    @property
    def said(self):
        """How many numbers there are in all unlike letters that were ever said."""
        return sum([machine.many_told for machine in self.machines])

    def _machine(self, machine):
        # It raises NoMachine for what is no machine of the grid.
        self.plan.grid.place_of(machine)
        return self.machines[machine]

    def _check_letter(self, number):
        if not is_integer_within(number, 0, len(self._way) - 1):
            raise NoLetter(number)

    def _take(self, number):
        self._check_letter(number)
        return self._way.pop(number)

    def _deliver_all(self):
        is_new = False
        while len(self._way) > 0:
            is_new = self.deliver(0) or is_new
        return is_new

    def _place_wanted(self, name):
        names = [wanted for wanted, _ in self.plan.wanted]
        if name not in names:
            raise NoName(name)
        return names.index(name)
