"""Machines: each does the rounds of a plan by itself, as far as it can."""


class Stand:
    """How far a machine has come: its pieces, of which each round gave one, and the letters that it told and got.

    told has the numbers of the letters by (round, to), in the order in which they were told, got by (round, from).
    """

    def __init__(self, pieces, told, got):
        self.pieces = pieces
        self.told = told
        self.got = got

    def copied(self):
        """A stand like this one, which changes by itself."""
        told = {key: self.told[key] for key in self.told}
        got = {key: self.got[key] for key in self.got}
        return Stand(list(self.pieces), told, got)


class Machine:
    """A machine of a run; deeds tells what it does in each round, uses which of its pieces it needs there."""

    def __init__(self, number, deeds, uses, given):
        self.number = number
        self.stand = Stand(given, {}, {})
        self.many_told = 0
        self._deeds = deeds
        self._uses = uses
        self._many_given = len(given)
        self._kept = self.stand.copied()
        # The letters that it ever told, whatever it forgets by a fall.
        self._ever = {}

    def present_round(self):
        """The number of the round at which it is."""
        return len(self.stand.pieces) - self._many_given

    def is_done(self):
        """Whether it has done all rounds."""
        return self.present_round() == len(self._deeds)

    def go_on(self):
        """Does round after round, until it is done, or waits for a letter."""
        while not self.is_done():
            number = self.present_round()
            deed = self._deeds[number]
            used = [self.stand.pieces[at] for at in self._uses[number]]
            self._tell(number, deed, used)
            senders = deed.senders(self.number)
            if not all([(number, source) in self.stand.got for source in senders]):
                return
            heard = {source: self.stand.got[number, source] for source in senders}
            self.stand.pieces.append(deed.new_piece(self.number, used, heard))

    def receive(self, number, source, numbers):
        """Gets the letter of a round from another machine, and goes on; returns whether it was new."""
        if (number, source) in self.stand.got:
            return False
        self.stand.got[number, source] = numbers
        self.go_on()
        return True

    def keep(self):
        """Keeps its stand."""
        self._kept = self.stand.copied()

    def fall(self):
        """Goes back to the stand that it kept, and on from there."""
        self.stand = self._kept.copied()
        self.go_on()

    def _tell(self, number, deed, used):
        for to in deed.receivers(self.number):
            if (number, to) not in self.stand.told:
                numbers = deed.numbers(self.number, to, used)
                self.stand.told[number, to] = numbers
                if (number, to) not in self._ever:
                    self._ever[number, to] = True
                    self.many_told += len(numbers)
