"""Programs that are read from texts."""

from twodivisions.checks import is_decimal
from twodivisions.errors import InvalidText
from twodivisions.programs import Program

SIGNS = {"-": -1, "0": 0, "+": 1, "*": None}
MOST_DIGITS = 30


class Lines:
    """The lines of a text, taken one after the other."""

    def __init__(self, text):
        self._lines = [line.split(" ") for line in text.split("\n")]
        self._at = 0

    def comes(self, first):
        """Whether the next line begins with this word."""
        return self._at < len(self._lines) and self._lines[self._at][0] == first

    def take(self, first, many, least, most):
        """The words of the next line behind its first one: so many, then integers, from least to most.

        There is no greatest number of integers if most is None.
        """
        words = self._lines[self._at] if self.comes(first) else []
        integers = words[many + 1:]
        given = len(words) - many - 1
        if "" in words or given < least or most is not None and given > most:
            raise InvalidText(self._at)
        if not all([is_decimal(word, MOST_DIGITS) for word in integers]):
            raise InvalidText(self._at)
        self._at = self._at + 1
        return words[1:many + 1] + [int(word) for word in integers]

    def take_register(self):
        """The next line as a register."""
        name, first = self.take("register", 1, 1, 1)
        return name, first

    def take_row(self, many):
        """The next line as a row of a program with so many registers."""
        at = self._at
        width = many + 2
        sign, rest, then, *factors = self.take("row", 3, many * width, many * width)
        if sign not in SIGNS or rest != "*" and not is_decimal(rest, MOST_DIGITS):
            raise InvalidText(at)
        remainder = None if rest == "*" else int(rest)
        updates = tuple([tuple(factors[k * width:(k + 1) * width]) for k in range(many)])
        return SIGNS[sign], remainder, updates, None if then == "." else then

    def take_mode(self, many):
        """The next lines as a mode of a program with so many registers."""
        name, rule = self.take("mode", 2, 0, 0)
        rows = [self.take_row(many)]
        while self.comes("row"):
            rows.append(self.take_row(many))
        return name, rule, rows

    def finish(self):
        """Refuse a line that is left."""
        if self._at < len(self._lines):
            raise InvalidText(self._at)


def parse_program(text):
    """The program that a text tells."""
    if not isinstance(text, str):
        raise InvalidText(None)
    lines = Lines(text)
    base = lines.take("base", 0, 1, 1)[0]
    registers = [lines.take_register()]
    while lines.comes("register"):
        registers.append(lines.take_register())
    modes = [lines.take_mode(len(registers))]
    while lines.comes("mode"):
        modes.append(lines.take_mode(len(registers)))
    ends = tuple(lines.take("ends", 0, 0, None))
    result = tuple(lines.take("result", 0, 1, None))
    lines.finish()
    return Program(base, registers, modes, ends, result)
