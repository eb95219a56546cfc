"""Great numbers: numbers with more figures than can be written out, told by repeated pieces."""

from twodivisions.checks import is_between, is_sign
from twodivisions.errors import (
    Endless, InvalidBase, InvalidNumber, InvalidPieces, InvalidProgram, InvalidSign, LimitExceeded, Unlike,
)
from twodivisions.figures import is_word, number_of
from twodivisions.machines import Machine, row_times, unit_of, zero_row
from twodivisions.programs import Program, first_values, result_of

MOST_TIMES = 10 ** 30
LONGEST_WORD = 60
MOST_WRITTEN = 1000
GREATEST_MODULUS = 10 ** 18


def is_piece(value, size):
    """Whether a value is a tuple of a word that is not empty and how many times it is repeated."""
    if not (isinstance(value, tuple) and len(value) == 2):
        return False
    word, times = value
    return is_word(word, size) and 1 <= len(word) <= LONGEST_WORD and is_between(times, 1, MOST_TIMES)


def figures_in(piece):
    """The number of figures of a piece."""
    word, times = piece
    return len(word) * times


def check_pieces(pieces, size):
    """Refuse what cannot be the pieces of a great number."""
    for at, piece in enumerate(pieces):
        if not is_piece(piece, size):
            raise InvalidPieces(at)
    if len(pieces) > 0 and pieces[-1][0][-1] == 0:
        raise InvalidPieces(len(pieces) - 1)


def check_modulus(modulus):
    """Refuse what is no modulus."""
    if not is_between(modulus, 1, GREATEST_MODULUS):
        raise InvalidNumber(modulus)


def low_row(row, modulus):
    """The remainders of the entries of a row."""
    return tuple([entry % modulus for entry in row])


def product_of(one, other, modulus):
    """The product of two matrices, modulo a number."""
    return tuple([low_row(row_times(row, other), modulus) for row in one])


def repeated(row, matrix, times, modulus):
    """The row behind a matrix that is repeated so many times, modulo a number."""
    left = times
    while left > 0:
        if left % 2 == 1:
            row = low_row(row_times(row, matrix), modulus)
        left = left // 2
        if left > 0:
            matrix = product_of(matrix, matrix, modulus)
    return row


def run_of(piece):
    """The run of a piece: the tuple of its word, from the highest figure down, and the number of figures."""
    return piece[0][::-1], figures_in(piece)


def difference(word, other, many):
    """The first two figures that are not the same among so many of two words that are repeated, or None."""
    # Two repeated words that are the same for as many figures as both have are the same without end.
    both = len(word) + len(other)
    for at in range(both if both < many else many):
        figure, beside = word[at % len(word)], other[at % len(other)]
        if figure != beside:
            return figure, beside
    return None


def rest_of(run, many):
    """The list of what is left of a run without its first figures, so many: one run, or none."""
    word, length = run
    turn = many % len(word)
    return [] if length == many else [(word[turn:] + word[:turn], length - many)]


def highest_difference(pieces, others):
    """The two figures at the highest place at which two numbers of as many figures differ, or None."""
    runs = [run_of(piece) for piece in pieces]
    besides = [run_of(piece) for piece in others]
    while runs != []:
        run, beside = runs.pop(), besides.pop()
        shared = run[1] if run[1] < beside[1] else beside[1]
        found = difference(run[0], beside[0], shared)
        if found is not None:
            return found
        runs.extend(rest_of(run, shared))
        besides.extend(rest_of(beside, shared))
    return None


class GreatNumber:
    """A number that is told by a sign and repeated pieces of figures, lowest first; it never changes."""

    def __init__(self, size, sign, *pieces):
        if not is_between(size, 2, 10):
            raise InvalidBase(size)
        if not is_sign(sign):
            raise InvalidSign(sign)
        check_pieces(pieces, size)
        self._size = size
        self._sign = 0 if len(pieces) == 0 else sign
        self._pieces = pieces
        self._many = sum([figures_in(piece) for piece in pieces])

    @classmethod
    def from_pieces(cls, size, sign, pieces):
        """The great number of a list or tuple of pieces."""
        if not isinstance(pieces, (list, tuple)):
            raise InvalidPieces(None)
        return cls(size, sign, *pieces)

    @property
    def base_size(self):
        """The size for which the figures are."""
        return self._size

    @property
    def number_sign(self):
        """The sign: 1, -1, or 0 for 0."""
        return self._sign

    @property
    def figures(self):
        """The number of figures."""
        return self._many

    def pieces(self):
        """The list of the pieces, as they were given."""
        return list(self._pieces)

    def __getitem__(self, at):
        if not is_between(at, 0, self._many - 1):
            raise InvalidNumber(at)
        left = at
        place = 0
        while left >= figures_in(self._pieces[place]):
            left = left - figures_in(self._pieces[place])
            place = place + 1
        word = self._pieces[place][0]
        return word[left % len(word)]

    def __iter__(self):
        raise TypeError("a great number cannot be iterated")

    def __eq__(self, other):
        return isinstance(other, GreatNumber) and self._size == other._size and self._compared(other) == 0

    def __lt__(self, other):
        if not isinstance(other, GreatNumber):
            return NotImplemented
        if self._size != other._size:
            raise Unlike(self._size, other._size)
        return self._compared(other) < 0

    def _compared(self, other):
        # Below 0 if this number is less than the other one, 0 if they are equal, or above 0.
        if self._sign != other._sign:
            return self._sign - other._sign
        if self._many != other._many:
            return self._sign * (self._many - other._many)
        found = highest_difference(self._pieces, other._pieces)
        return 0 if found is None else self._sign * (found[0] - found[1])

    def _signed(self, sign, pieces):
        # The sign of 0 is none with which a great number can be made.
        given = 1 if sign == 0 else sign
        return GreatNumber(self._size, given, *pieces)

    def __lshift__(self, other):
        if not is_between(other, 0, MOST_TIMES):
            raise InvalidNumber(other)
        zeros = () if other == 0 or self._sign == 0 else (((0,), other),)
        return self._signed(self._sign, zeros + self._pieces)

    def __neg__(self):
        return self._signed(-self._sign, self._pieces)

    def __abs__(self):
        return self._signed(1, self._pieces)

    def remainder(self, modulus):
        """The remainder of the number, from 0 on."""
        check_modulus(modulus)
        row = (0, 1)
        for word, times in self._pieces[::-1]:
            place, total = 1, 0
            for figure in word[::-1]:
                place, total = place * self._size, total * self._size + figure
            row = repeated(row, ((place, 0), (total, 1)), times, modulus)
        return self._sign * row[0] % modulus

    def plain(self):
        """The number as an integer."""
        if self._many > MOST_WRITTEN:
            raise LimitExceeded(MOST_WRITTEN)
        figures = []
        for word, times in self._pieces:
            figures.extend(word * times)
        return self._sign * number_of(1, tuple(figures), self._size)


def word_step(machine, state, word, matrix, modulus):
    """The tuple of the state behind a word and the product of a matrix with all matrices of the word."""
    for figure in word:
        state, step = machine.step(state, figure)
        matrix = product_of(matrix, step, modulus)
    return state, matrix


def behind_run(machine, state, row, piece, modulus):
    """The tuple of the state and the row behind a repeated word."""
    word, times = piece
    unit = unit_of(len(row))
    states = [state]
    matrices = []
    # A state comes again before long; then what is repeated very often is a ring of matrices.
    while len(matrices) < times and states[-1] not in states[:-1]:
        behind, matrix = word_step(machine, states[-1], word, unit, modulus)
        states.append(behind)
        matrices.append(matrix)
    start = states.index(states[-1])
    ahead = times if times < start else start
    for matrix in matrices[:ahead]:
        row = low_row(row_times(row, matrix), modulus)
    left = times - ahead
    if left == 0:
        return states[ahead], row
    ring = matrices[start:]
    turn = unit
    for matrix in ring:
        turn = product_of(turn, matrix, modulus)
    row = repeated(row, turn, left // len(ring), modulus)
    for matrix in ring[:left % len(ring)]:
        row = low_row(row_times(row, matrix), modulus)
    return states[start + left % len(ring)], row


def end_row(program, great, modulus):
    """The row of the registers at the end and 1, modulo a number, or None if the run is endless."""
    if great.number_sign == 0:
        zero = zero_row(program)
        return None if zero is None else low_row((*zero, 1), modulus)
    machine = Machine(program, great.number_sign)
    state = machine.first()
    row = low_row((*first_values(program), 1), modulus)
    *lower, (word, times) = great.pieces()
    # What is left of the highest piece below the highest figure.
    again = [(word, times - 1)] if times > 1 else []
    rest = [(word[:-1], 1)] if len(word) > 1 else []
    for piece in lower + again + rest:
        state, row = behind_run(machine, state, row, piece, modulus)
    tail = machine.tail(state, word[-1])
    return None if tail is None else low_row(row_times(row, tail), modulus)


def check_meant(program, great):
    """Refuse what is no program, and a great number of another size."""
    if not isinstance(program, Program):
        raise InvalidProgram(program)
    if program.size != great.base_size:
        raise Unlike(program.size, great.base_size)


def great_ends(program, great):
    """Whether a program ends on a great number."""
    check_meant(program, great)
    return end_row(program, great, 1) is not None


def great_registers(program, great, *, modulus):
    """The tuple of the registers at the end, modulo a number."""
    check_meant(program, great)
    check_modulus(modulus)
    row = end_row(program, great, modulus)
    if row is None:
        raise Endless(great)
    return row[:-1]


def great_result(program, great, *, modulus):
    """The result, modulo a number."""
    return result_of(program, great_registers(program, great, modulus=modulus)) % modulus
