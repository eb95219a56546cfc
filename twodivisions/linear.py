"""Linear machines and determinants, and the elimination modulo a prime that finds out ranks without long integers."""

from math import isqrt, lcm

from twodivisions.checks import is_integer
from twodivisions.comparing import row_behind, terms_of
from twodivisions.errors import InvalidFigures, InvalidMachine, InvalidRows
from twodivisions.figures import is_word
from twodivisions.programs import weighed
from twodivisions.ratios import Ratio, is_number, ratio_of
from twodivisions.spans import full_of, grown, lead_of

# Lesser primes are faster, greater ones tell longer ratios by their residues.
PRIMES = ((1 << 61) - 1, (1 << 521) - 1, (1 << 2203) - 1)


def is_line(value, many):
    """Whether a value is a list or tuple of so many integers."""
    return isinstance(value, (list, tuple)) and len(value) == many and all([is_integer(entry) for entry in value])


def determinant(table):
    """The determinant of a square table of integers."""
    if not isinstance(table, (list, tuple)) or not all([is_line(row, len(table)) for row in table]):
        raise InvalidRows(table)
    rows = [list(row) for row in table]
    sign = 1
    ahead = 1
    # Each entry of the rows that are left is a determinant itself, so all divisions leave no remainder.
    while rows != []:
        at = lead_of([row[0] for row in rows])
        if at is None:
            return 0
        lead = rows[at]
        if at % 2 == 1:
            sign = -sign
        rows = [
            [(lead[0] * entry - row[0] * other) // ahead for entry, other in zip(row[1:], lead[1:])]
            for row in rows[:at] + rows[at + 1:]
        ]
        ahead = lead[0]
    return sign * ahead


def is_entries(value, many):
    """Whether a value is a tuple of so many integers or ratios."""
    return isinstance(value, tuple) and len(value) == many and all([is_number(entry) for entry in value])


def is_matrix(value, many):
    """Whether a value is a tuple of so many rows, each with as many entries."""
    return isinstance(value, tuple) and len(value) == many and all([is_entries(row, many) for row in value])


def is_machine(value):
    """Whether a value is a linear machine, of any number of figures."""
    if not (isinstance(value, tuple) and len(value) == 3):
        return False
    first, matrices, last = value
    if not (isinstance(first, tuple) and isinstance(matrices, tuple)):
        return False
    many = len(first)
    return is_entries(first, many) and is_entries(last, many) and all([is_matrix(matrix, many) for matrix in matrices])


def scaled(rows):
    """The tuple of a whole from 1 on and the rows of integers that some rows times this whole are."""
    ratios = [[ratio_of(entry) for entry in row] for row in rows]
    whole = 1
    for row in ratios:
        for ratio in row:
            whole = lcm(whole, ratio.bottom)
    return whole, [[ratio.top * (whole // ratio.bottom) for ratio in row] for row in ratios]


def columns_of(rows):
    """The columns of a matrix, each as a list of terms."""
    return [terms_of(column) for column in zip(*rows)]


def machine_value(machine, word):
    """The value of a linear machine at a word."""
    if not is_machine(machine):
        raise InvalidMachine(machine)
    first, matrices, last = machine
    if not is_word(word, len(matrices)):
        raise InvalidFigures(word)
    tables = {figure: scaled(matrix) for figure, matrix in enumerate(matrices) if figure in word}
    columns = {figure: columns_of(rows) for figure, (_, rows) in tables.items()}
    bottom, (row,) = scaled([first])
    for figure in word:
        row = row_behind(row, columns[figure])
        bottom = bottom * tables[figure][0]
    more, (ending,) = scaled([last])
    return Ratio(weighed(row, ending), bottom * more)


def halted(prime, value, most):
    """The tuple (rest, factor), the first in Euclid's way with a rest of at most so much.

    The rest is what a prime leaves of factor times the value.
    """
    ahead, less = 0, prime
    factor, rest = 1, value
    while rest > most:
        times = less // rest
        less, rest = rest, less - times * rest
        ahead, factor = factor, ahead - times * factor
    return rest, factor


class Residues:
    """Rows modulo a prime: an echelon with 1 at each place, at which all other rows are 0."""

    def __init__(self, prime):
        self._prime = prime
        self._echelon = []

    def low(self, row):
        """The row modulo the prime."""
        return [entry % self._prime for entry in row]

    def _rest(self, row):
        factors = [row[place] for place, _ in self._echelon]
        lines = [line for _, line in self._echelon]
        if lines == []:
            return self.low(row)
        columns = list(zip(*lines))
        return [(entry - weighed(factors, column)) % self._prime for entry, column in zip(row, columns)]

    def take(self, row):
        """Take a further row of integers; whether it is not in the span of those ahead."""
        rest = self._rest(row)
        place = lead_of(rest)
        if place is None:
            return False
        _, factor = halted(self._prime, rest[place], 1)
        lead = self.low([entry * factor for entry in rest])
        self._echelon = [(at, self._cleared(line, place, lead)) for at, line in self._echelon] + [(place, lead)]
        return True

    def _cleared(self, line, place, lead):
        # The line less the multiple of the lead that is equal to it at the place.
        less = line[place]
        return line if less == 0 else self.low([entry - less * other for entry, other in zip(line, lead)])

    def full(self):
        """The full echelon of integers, if the ratios of its rows are as short as they can be told.

        A row of ratios with these residues is told otherwise if they are too long.
        """
        most = isqrt(self._prime // 2)
        told = []
        for place, line in self._echelon:
            ratios = [halted(self._prime, entry, most) for entry in line]
            whole = 1
            for _, factor in ratios:
                whole = lcm(whole, factor)
            told.append((place, [rest * (whole // factor) for rest, factor in ratios]))
        return told


class Integers:
    """Rows of integers: exactly what the residues tell, but slower."""

    def __init__(self):
        self._echelon = []

    def low(self, row):
        """The row itself."""
        return row

    def take(self, row):
        """Take a further row of integers; whether it is not in the span of those ahead."""
        many = len(self._echelon)
        self._echelon = grown(self._echelon, row)
        return len(self._echelon) > many

    def full(self):
        """The full echelon of integers."""
        return full_of(self._echelon)


def is_regular(table):
    """Whether the determinant of a square table of integers is not 0."""
    residues = Residues(PRIMES[0])
    for row in table:
        if not residues.take(row):
            # A determinant can be a multiple of the prime.
            return determinant(table) != 0
    return True
