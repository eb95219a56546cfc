"""Linear relations that hold at the end of every run."""

from twodivisions.checks import is_sign
from twodivisions.comparing import Search, row_behind, signs_of, spread
from twodivisions.errors import InvalidForm, InvalidProgram, InvalidSign, Unlike
from twodivisions.figures import number_of
from twodivisions.machines import Machine, zero_row
from twodivisions.programs import Program, first_values, weighed
from twodivisions.ratios import Ratio
from twodivisions.rows import is_form
from twodivisions.spans import forms_of, grown


class Reader:
    """A program that reads the figures of a number with a sign, with the number that they make so far.

    Its rows are the extended rows: the registers, the number, the place, and a number that stands for 1.
    """

    def __init__(self, program, sign):
        self._machine = Machine(program, sign)
        self._size = program.size
        self._sign = sign
        self._values = first_values(program)
        self._leads = {}

    def first_row(self):
        """The first extended row."""
        return (*self._values, 0, self._sign, 1)

    def states(self):
        """The list of the states, beginning with the first one."""
        return self._machine.states()

    def search(self):
        """The search for the extended rows, each at a state."""
        return Search(self._machine.first(), self.first_row(), self._size, self.lead)

    def _adding(self, figure):
        # The terms that add a figure to the number.
        return [(len(self._values), 1), (len(self._values) + 1, figure)]

    def lead(self, state, figure):
        """The tuple of the state that comes next and the columns that make the extended row that comes next."""
        if (state, figure) not in self._leads:
            behind, matrix = self._machine.step(state, figure)
            columns = [spread(column, 0, 2) for column in zip(*matrix)]
            place = [(len(self._values) + 1, self._size)]
            self._leads[state, figure] = (behind, [*columns[:-1], self._adding(figure), place, columns[-1]])
        return self._leads[state, figure]

    def closing(self, state, figure):
        """The columns that make the registers at the end, the number and 1 if this is the highest figure, or None."""
        tail = self._machine.tail(state, figure)
        if tail is None:
            return None
        columns = [spread(column, 0, 2) for column in zip(*tail)]
        return [*columns[:-1], self._adding(figure), columns[-1]]

    def closed(self, state, row):
        """The list of the tuples (figure, row at the end) for the figures with which the run ends."""
        closings = [(figure, self.closing(state, figure)) for figure in range(1, self._size)]
        return [(figure, row_behind(row, columns)) for figure, columns in closings if columns is not None]


class Relations:
    """The linear relations of a program that hold for the numbers of a sign."""

    def __init__(self, program, *, sign=None):
        if not isinstance(program, Program):
            raise InvalidProgram(program)
        if sign is not None and not is_sign(sign):
            raise InvalidSign(sign)
        self._size = program.size
        self._many = len(program.registers())
        self._signs = signs_of(sign)
        self._readers = [Reader(program, own) for own in self._signs]
        self._searches = [reader.search() for reader in self._readers]
        zero = None if sign == -1 else zero_row(program)
        self._zero = None if zero is None else (*zero, 0, 1)
        # The rows (registers, N, 1) at the ends of runs, as far as they are no sums of multiples of others.
        self._echelon = [] if self._zero is None else grown([], self._zero)
        for reader, search in zip(self._readers, self._searches):
            for state, row in search.finds():
                for _, end in reader.closed(state, row):
                    self._echelon = grown(self._echelon, end)
        self._forms = forms_of(self._echelon, self._many + 2)

    def forms(self):
        """The list of independent relations that hold, of which every one that holds is a sum of multiples."""
        return list(self._forms)

    def __len__(self):
        return len(self._forms)

    def _check(self, form):
        if not is_form(form, self._many + 2):
            raise InvalidForm(form)

    def __contains__(self, form):
        self._check(form)
        return all([weighed(form, row) == 0 for _, row in self._echelon])

    def broken(self, form):
        """A number of the sign at which the relation does not hold, with the fewest figures, or None."""
        self._check(form)
        if self._zero is not None and weighed(form, self._zero) != 0:
            return 0
        number = None
        most = None
        for sign, reader, search in zip(self._signs, self._readers, self._searches):
            word = broken_word(reader, search, form, most)
            if word is not None:
                number = number_of(sign, word, self._size)
                most = len(word) - 1
        return number

    def recover(self):
        """The tuple of the ratios with which N is the sum of the registers at the end and 1, or None."""
        for form in self._forms:
            factor = form[self._many]
            if factor != 0:
                return tuple([Ratio(-entry, factor) for entry in (*form[:self._many], form[-1])])
        return None

    def paper(self):
        """A relation paper that is right for each relation that holds."""
        return tuple([tuple(search.steps()) for search in self._searches])

    def __le__(self, other):
        if not isinstance(other, Relations):
            return NotImplemented
        if self._many != other._many:
            raise Unlike(self._many, other._many)
        return all([form in other for form in self._forms])


def broken_word(reader, search, form, most):
    """The figures of a number at which a relation does not hold, at most so many and as few as can be, or None."""
    def last_figure(state, row):
        for figure, end in reader.closed(state, row):
            if weighed(form, end) != 0:
                return figure
        return None

    return search.shortest(last_figure, most)
