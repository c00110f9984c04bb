"""All errors of the package, each of which keeps the values that it is made with."""


class DealError(ValueError):
    """What all errors of the package have in common; it is never raised itself."""


class InvalidSides(DealError):
    """These are no sides."""

    def __init__(self, sides):
        self.sides = sides


class InvalidCells(DealError):
    """These are no cells for the sides beside them."""

    def __init__(self, cells):
        self.cells = cells


class InvalidInputs(DealError):
    """These are no inputs of a program."""

    def __init__(self, inputs):
        self.inputs = inputs


class NoFit(DealError):
    """The step of this number does not fit."""

    def __init__(self, number):
        self.number = number


class NoName(DealError):
    """Nothing has this name."""

    def __init__(self, name):
        self.name = name


class BadInput(DealError):
    """The array for the input of this number has other sides than the input."""

    def __init__(self, number):
        self.number = number


class InvalidGrid(DealError):
    """These are no directions of a grid."""

    def __init__(self, directions):
        self.directions = directions


class InvalidDealing(DealError):
    """These cuts and parts make no dealing."""

    def __init__(self, cuts, parts):
        self.cuts = cuts
        self.parts = parts


class NoMachine(DealError):
    """This is no machine of the grid."""

    def __init__(self, machine):
        self.machine = machine


class NoDealing(DealError):
    """The step of this number may not be dealt so."""

    def __init__(self, number):
        self.number = number


class Quarrel(DealError):
    """This machine has another piece than a lower one that should have the same."""

    def __init__(self, machine):
        self.machine = machine


class NoLetter(DealError):
    """No letter on the way has this place."""

    def __init__(self, number):
        self.number = number


class InvalidText(DealError):
    """This text is no program; at is the line that is wrong."""

    def __init__(self, text, at):
        self.text = text
        self.at = at


class TooMany(DealError):
    """These are too many to be looked through or to be passed on."""

    def __init__(self, many):
        self.many = many


class NotDone(DealError):
    """This machine is not done yet."""

    def __init__(self, machine):
        self.machine = machine
