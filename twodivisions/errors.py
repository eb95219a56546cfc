"""The errors of the package, each right below one of Python's own errors."""


class InvalidRule(ValueError):
    """The value is none of the five rules of division."""

    def __init__(self, value):
        self.value = value


class InvalidNumber(ValueError):
    """The value is not an integer that can stand there."""

    def __init__(self, value):
        self.value = value


class InvalidBase(ValueError):
    """The value is no base, or no size, that can stand there."""

    def __init__(self, value):
        self.value = value


class InvalidName(ValueError):
    """The value is no name of 1 to 8 lowercase letters."""

    def __init__(self, value):
        self.value = value


class InvalidRegisters(ValueError):
    """The registers of a program, or the one with this index, cannot stand there."""

    def __init__(self, number):
        self.number = number


class InvalidModes(ValueError):
    """The modes of a program, or the one with this index, cannot stand there."""

    def __init__(self, number):
        self.number = number


class InvalidRow(ValueError):
    """The row with this index cannot stand in the mode, or one is missing."""

    def __init__(self, mode, number):
        self.mode = mode
        self.number = number


class InvalidEnds(ValueError):
    """The value cannot be the ends of a program."""

    def __init__(self, value):
        self.value = value


class InvalidResult(ValueError):
    """The value cannot be the result of a program."""

    def __init__(self, value):
        self.value = value


class InvalidProgram(ValueError):
    """The value is no program."""

    def __init__(self, value):
        self.value = value


class InvalidFigures(ValueError):
    """The value is no tuple of figures that can stand there."""

    def __init__(self, value):
        self.value = value


class InvalidState(ValueError):
    """The value is no state of the machine."""

    def __init__(self, value):
        self.value = value


class InvalidText(ValueError):
    """The value is no text, or the line with this index cannot stand there."""

    def __init__(self, line):
        self.line = line


class InvalidRatio(ValueError):
    """The value cannot be the top or the bottom of a ratio."""

    def __init__(self, value):
        self.value = value


class InvalidRows(ValueError):
    """The value is no row, no table, or nothing that a row can have."""

    def __init__(self, value):
        self.value = value


class InvalidForm(ValueError):
    """The value is no form of the width that is wanted."""

    def __init__(self, value):
        self.value = value


class InvalidSign(ValueError):
    """The value is no sign that can stand there."""

    def __init__(self, value):
        self.value = value


class InvalidMachine(ValueError):
    """The value is no linear machine."""

    def __init__(self, value):
        self.value = value


class InvalidPieces(ValueError):
    """The pieces of a great number, or the one with this index, cannot stand there."""

    def __init__(self, number):
        self.number = number


class InvalidCommand(ValueError):
    """The word begins no command with so many words behind it."""

    def __init__(self, word):
        self.word = word


class UnknownName(LookupError):
    """Nothing has the name that the value should be."""

    def __init__(self, value):
        self.value = value


class Endless(ArithmeticError):
    """The run on the number never ends."""

    def __init__(self, number):
        self.number = number


class DivisionByZero(ArithmeticError):
    """Something was to be divided by 0."""

    def __init__(self):
        pass


class Parted(RuntimeError):
    """The number parts two programs."""

    def __init__(self, number):
        self.number = number


class Unlike(RuntimeError):
    """Two sizes that must be the same are not."""

    def __init__(self, one, other):
        self.one = one
        self.other = other


class Broken(RuntimeError):
    """A relation does not hold at the number."""

    def __init__(self, number):
        self.number = number


class Guarded(RuntimeError):
    """A guard of a book would be broken at the number."""

    def __init__(self, condition, number):
        self.condition = condition
        self.number = number


class NothingToUndo(RuntimeError):
    """No change is left that could be taken back."""

    def __init__(self):
        pass


class NothingToRedo(RuntimeError):
    """No change is left that could be done again."""

    def __init__(self):
        pass


class NoTrial(RuntimeError):
    """No trial is open that could be closed here."""

    def __init__(self):
        pass


class LimitExceeded(OverflowError):
    """More figures are wanted than the most that are written out."""

    def __init__(self, most):
        self.most = most
