"""Least machines: linear machines with as few entries as can be that give the results of a program."""

from math import lcm

from twodivisions.checks import is_sign
from twodivisions.comparing import Search, row_behind, terms_of, value_of
from twodivisions.errors import InvalidFigures, InvalidMachine, InvalidProgram, InvalidSign
from twodivisions.figures import is_word, number_of
from twodivisions.linear import PRIMES, Integers, Residues, columns_of, is_machine, is_regular, scaled
from twodivisions.machines import Machine
from twodivisions.programs import Program, first_values, result_at, weighed
from twodivisions.ratios import Ratio
from twodivisions.spans import parts_of


def check_meant(program, sign):
    """Refuse what is no program and no sign."""
    if not isinstance(program, Program):
        raise InvalidProgram(program)
    if not is_sign(sign):
        raise InvalidSign(sign)


def value_at(program, number):
    """The result of a program on a number, or 0 if it is endless."""
    result = result_at(program, number)
    return 0 if result is None else result


def word_value(program, sign, word):
    """The value of a word."""
    check_meant(program, sign)
    if not is_word(word, program.size):
        raise InvalidFigures(word)
    if word == ():
        return value_at(program, 0)
    return 0 if word[-1] == 0 else value_at(program, number_of(sign, word, program.size))


class Words:
    """A program that reads words of figures, as a linear machine of integers, mostly not a least one.

    For each state it has entries for the registers and 1, which are 0 in all other states, and one more entry at the
    end: the value of the word that was read so far.
    """

    def __init__(self, program, sign):
        machine = Machine(program, sign)
        width = len(program.registers()) + 1
        self._starts = {state: at * width for at, state in enumerate(machine.states())}
        self._end = width * len(self._starts)
        # For each figure the lines of its matrix, and its columns, all of them as lists of terms.
        self._lines = [self._lines_of(program, machine, figure) for figure in range(program.size)]
        self._columns = [self._columns_of(lines) for lines in self._lines]
        self._first = (*first_values(program), 1, *[0] * (self._end - width), value_at(program, 0))

    def _lines_of(self, program, machine, figure):
        lines = []
        for state in self._starts:
            behind, matrix = machine.step(state, figure)
            tail = None if figure == 0 else machine.tail(state, figure)
            for at, entries in enumerate(matrix):
                value = 0 if tail is None else weighed(program.result, tail[at])
                line = [(self._starts[behind] + place, factor) for place, factor in terms_of(entries)]
                lines.append(line if value == 0 else [*line, (self._end, value)])
        return [*lines, []]

    def _columns_of(self, lines):
        columns = [[] for _ in lines]
        for at, line in enumerate(lines):
            for place, factor in line:
                columns[place].append((at, factor))
        return columns

    def columns(self, figure):
        """The columns of the matrix of a figure, each as a list of terms."""
        return self._columns[figure]

    def first_row(self):
        """The row ahead of all figures."""
        return self._first

    def row_of(self, word):
        """The row behind a word."""
        row = self._first
        for figure in word:
            row = row_behind(row, self._columns[figure])
        return row

    def last_column(self):
        """The column of the empty word."""
        return [*[0] * self._end, 1]

    def longer(self, figure, column):
        """The column of a figure and the word of another column behind it."""
        return [value_of(column, line) for line in self._lines[figure]]

    def column_of(self, word):
        """The column of a word: its product with the row behind another word is the value of both together."""
        column = self.last_column()
        for figure in word[::-1]:
            column = self.longer(figure, column)
        return column

    def search(self):
        """The search for the rows behind words, all of them at the key 0."""
        return Search(0, self._first, len(self._lines), self._lead)

    def _lead(self, key, figure):
        return key, self._columns[figure]


def tails_of(words, size, full, span):
    """The list of the tuples (word, column) of words whose values behind all others are no sums of multiples.

    The full echelon has all rows behind words in its span.
    """
    lines = [terms_of(row) for _, row in full]
    found = []
    todo = [((), words.last_column())]
    at = 0
    while at < len(todo):
        word, column = todo[at]
        if span.take([value_of(column, line) for line in lines]):
            found.append((word, column))
            for figure in range(size):
                todo.append(((figure, *word), span.low(words.longer(figure, column))))
        at += 1
    return found


def heads_of(words, told, tails, span):
    """The tuple of those of the told words whose values ahead of the tails are no sums of multiples."""
    heads = []
    for word in told:
        row = words.row_of(word)
        if span.take([weighed(row, column) for _, column in tails]):
            heads.append(word)
    return tuple(heads)


class Fold:
    """The rows behind words as sums of multiples of some rows, and columns that tell all of these sums apart.

    Both are full echelons. A column has an entry for each of the rows.
    """

    def __init__(self, words, size, rows, columns):
        self._words = words
        self._rows = rows
        self._columns = columns
        self._places = [place for place, _ in columns]
        self._wholes = [column[place] for place, column in columns]
        self._free = [at for at in range(len(rows)) if at not in self._places]
        self._crosses = [[column[at] for _, column in columns] for at in self._free]
        self._ending = [weighed(row, words.last_column()) for _, row in rows]
        self._moves = [self._move(figure) for figure in range(size)]

    def _move(self, figure):
        # The tuple (whole, columns): the columns behind the figure, times a whole.
        told = [parts_of(self._rows, row_behind(row, self._words.columns(figure)), 0) for _, row in self._rows]
        whole = 1
        for parts in told:
            whole = lcm(whole, parts[0])
        lines = [terms_of([part * (whole // own) for part in parts]) for own, *parts in told]
        return whole, [[value_of(column, line) for line in lines] for _, column in self._columns]

    def _is_told(self, column):
        whole, *parts = parts_of(self._columns, column, 0)
        return all([whole * column[at] == weighed(parts, cross) for at, cross in zip(self._free, self._crosses)])

    def is_closed(self):
        """Whether the columns of all words are sums of multiples of the columns."""
        if not self._is_told(self._ending):
            return False
        for _, columns in self._moves:
            if not all([self._is_told(column) for column in columns]):
                return False
        return True

    def machine(self):
        """The linear machine that has an entry for each of the columns."""
        whole, *parts = parts_of(self._rows, self._words.first_row(), 0)
        sums = [weighed(parts, column) for _, column in self._columns]
        first = tuple([Ratio(total, whole * own) for total, own in zip(sums, self._wholes)])
        last = tuple([Ratio(self._ending[place]) for place in self._places])
        return first, tuple([self._matrix(whole, columns) for whole, columns in self._moves]), last

    def _matrix(self, whole, columns):
        return tuple([
            tuple([Ratio(column[place], whole * own) for column, own in zip(columns, self._wholes)])
            for place in self._places
        ])


def least_by(words, size, search, span, other):
    """The tuple (heads, tails, machine), found by two spans, or None if they do not find it.

    Heads and tails show that there is no machine with fewer entries; the machine is shown to fit.
    """
    rows = search.full(0)
    tails = tails_of(words, size, rows, span)
    heads = heads_of(words, search.words(), tails, other)
    fold = Fold(words, size, rows, span.full())
    if len(heads) < len(tails) or not fold.is_closed():
        return None
    return heads, tuple([word for word, _ in tails]), fold.machine()


class LeastMachine:
    """A linear machine that fits a program for a sign, with as few entries as can be."""

    def __init__(self, program, sign):
        check_meant(program, sign)
        self._program = program
        self._sign = sign
        words = Words(program, sign)
        search = words.search()
        spans = [(Residues(prime), Residues(prime)) for prime in PRIMES]
        # A prime may be a factor of what is not 0, or too small for the ratios; integers are exact.
        for span, other in [*spans, (Integers(), Integers())]:
            told = least_by(words, program.size, search, span, other)
            if told is not None:
                break
        self._heads, self._tails, self._told = told

    @property
    def entries(self):
        """The number of entries."""
        return len(self._heads)

    def heads(self):
        """The tuple of words that show, together with the tails, that no machine with fewer entries fits."""
        return self._heads

    def tails(self):
        """The tuple of words that stand behind the heads."""
        return self._tails

    def machine(self):
        """The linear machine."""
        return self._told

    def __call__(self, word):
        return word_value(self._program, self._sign, word)

    @staticmethod
    def check_heads(program, sign, heads, tails):
        """Whether two values are heads and tails: as many words, the table of whose values has a determinant not 0."""
        check_meant(program, sign)
        if not (is_words(heads, program.size) and is_words(tails, program.size) and len(heads) == len(tails)):
            return False
        words = Words(program, sign)
        rows = [words.row_of(head) for head in heads]
        columns = [words.column_of(tail) for tail in tails]
        return is_regular([[weighed(row, column) for column in columns] for row in rows])


def is_words(value, size):
    """Whether a value is a tuple of words."""
    return isinstance(value, tuple) and all([is_word(word, size) for word in value])


class Beside:
    """A program and a linear machine that read words beside each other, in rows of integers.

    The rows have the entries of the program's words and behind them those of the machine.
    """

    def __init__(self, program, sign, machine):
        first, matrices, last = machine
        self._words = Words(program, sign)
        self._width = len(self._words.first_row())
        whole, (row,) = scaled([first])
        self._first = (*[entry * whole for entry in self._words.first_row()], *row)
        self._columns = [self._columns_of(figure, matrix) for figure, matrix in enumerate(matrices)]
        whole, (row,) = scaled([last])
        # The value of this column on a row is a multiple of the difference of the values.
        gap = [*[entry * whole for entry in self._words.last_column()], *[-entry for entry in row]]
        self._difference = terms_of(gap)
        self._lasts = [self._differences_behind(columns) for columns in self._columns]

    def _columns_of(self, figure, matrix):
        whole, rows = scaled(matrix)
        own = [[(place, factor * whole) for place, factor in column] for column in self._words.columns(figure)]
        return own + [[(self._width + place, factor) for place, factor in column] for column in columns_of(rows)]

    def _differences_behind(self, columns):
        gap = [0] * len(columns)
        for at, factor in self._difference:
            for place, entry in columns[at]:
                gap[place] = gap[place] + factor * entry
        return terms_of(gap)

    def _lead(self, key, figure):
        return key, self._columns[figure]

    def _last_figure(self, key, row):
        for figure, gap in enumerate(self._lasts):
            if value_of(row, gap) != 0:
                return figure
        return None

    def differing(self):
        """A word with the fewest figures at which the values differ, or None."""
        if value_of(self._first, self._difference) != 0:
            return ()
        return Search(0, self._first, len(self._columns), self._lead).shortest(self._last_figure)


def differing_word(program, sign, machine):
    """A word with the fewest figures at which a linear machine does not have the value of the word, or None."""
    check_meant(program, sign)
    if not is_machine(machine) or len(machine[1]) != program.size:
        raise InvalidMachine(machine)
    return Beside(program, sign, machine).differing()
