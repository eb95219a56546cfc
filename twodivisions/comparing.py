"""Two programs: whether they are alike on all numbers, or a number that parts them."""

from twodivisions.checks import is_between, is_sign
from twodivisions.errors import InvalidNumber, InvalidProgram, InvalidSign, Parted, Unlike
from twodivisions.figures import number_of
from twodivisions.machines import Machine, pairs_of
from twodivisions.programs import Program, first_values, result_at, weighed
from twodivisions.spans import full_of, lead_of, parts_of, reduced

HIGHEST_MODULUS = 6


def terms_of(column):
    """The terms of a column: a list of the tuples (place, factor) for the factors that are not 0."""
    return [(place, factor) for place, factor in enumerate(column) if factor != 0]


def value_of(row, terms):
    """The sum of the factors of some terms times the entries of a row at their places."""
    return sum([factor * row[place] for place, factor in terms])


def row_behind(row, columns):
    """The row that columns, as lists of terms, make of a row."""
    return tuple([value_of(row, terms) for terms in columns])


class Search:
    """The rows to which figures lead, each at a key, those of fewer figures first.

    A figure leads from one key to another, and changes the rows there in a linear way: follow(key, figure) is
    the tuple (key, columns), each column as a list of terms. Of the rows at a key each one is left out that is
    a sum of multiples of those found ahead of it; the others are kept less such a sum. So if anything linear is
    0 on all rows found ahead of one, it is 0 on the row that is kept exactly if it is 0 on the row to which its
    figures lead.
    """

    def __init__(self, key, row, size, follow):
        self._size = size
        self._follow = follow
        # Tuples (key, row, figures, index, figure): behind so many figures, the last of them this one,
        # the row is found from the one with this index.
        self._finds = [(key, row, 0, None, None)]
        self._echelons = {key: [(lead_of(row), row)]}
        self._done = 0

    def _go_on(self):
        key, row, many, _, _ = self._finds[self._done]
        for figure in range(self._size):
            behind, columns = self._follow(key, figure)
            echelon = self._echelons.setdefault(behind, [])
            if len(echelon) < len(row):
                rest = tuple(reduced(echelon, row_behind(row, columns)))
                place = lead_of(rest)
                if place is not None:
                    echelon.append((place, rest))
                    self._finds.append((behind, rest, many + 1, self._done, figure))
        self._done += 1

    def finds(self):
        """The list of the tuples (key, row) of all rows."""
        while self._done < len(self._finds):
            self._go_on()
        return [(key, row) for key, row, _, _, _ in self._finds]

    def shortest(self, last_figure, most=None):
        """The fewest figures to a row for which last_figure(key, row) is one, and it behind them, or None.

        Words of more than the most figures are not looked for.
        """
        at = 0
        while at < len(self._finds):
            key, row, many, _, _ = self._finds[at]
            if most is not None and many >= most:
                return None
            figure = last_figure(key, row)
            if figure is not None:
                return (*self._figures_to(at), figure)
            if at == self._done:
                self._go_on()
            at += 1
        return None

    def _figures_to(self, at):
        figures = []
        _, _, _, elder, figure = self._finds[at]
        while elder is not None:
            figures.append(figure)
            _, _, _, elder, figure = self._finds[elder]
        return figures[::-1]

    def words(self):
        """The list of the tuples of figures that lead to the rows of finds()."""
        return [tuple(self._figures_to(at)) for at in range(len(self.finds()))]

    def full(self, key):
        """The full echelon whose span the rows at a key have."""
        self.finds()
        return full_of(self._echelons[key])

    def steps(self):
        """The list of the tuples (key, rows, steps) of all keys; the first row is one of the rows of its key.

        Steps has for each row a tuple for each figure: the whole and the parts that make the row that comes next.
        """
        first_key, first_row = self.finds()[0]
        fulls = {key: full_of(echelon) for key, echelon in self._echelons.items()}
        rows = {key: [tuple(row) for _, row in full] for key, full in fulls.items()}
        ahead = {key: [] for key in fulls}
        if first_row not in rows[first_key]:
            # It is more than the span needs, so it is a part of none of the rows that come next.
            ahead[first_key] = [first_row]
        told = []
        for key in fulls:
            leads = [self._follow(key, figure) for figure in range(self._size)]
            own = (*ahead[key], *rows[key])
            steps = []
            for row in own:
                nexts = [(behind, row_behind(row, columns)) for behind, columns in leads]
                steps.append(tuple([parts_of(fulls[behind], line, len(ahead[behind])) for behind, line in nexts]))
            told.append((key, own, tuple(steps)))
        return told


def spread(column, ahead, behind):
    """The terms of the column of a program, for rows with so many entries ahead of its registers and behind them."""
    last = len(column) - 1
    return [(ahead + place + (behind if place == last else 0), factor) for place, factor in terms_of(column)]


class Couple:
    """Two programs beside each other that read the figures of a number with a sign.

    Its rows have the registers of the one, those of the other, and a number that stands for 1.
    """

    def __init__(self, one, other, sign):
        self._one = one
        self._other = other
        self._machine = Machine(one, sign)
        self._beside = Machine(other, sign)
        self._many = len(one.registers())
        self._more = len(other.registers())
        self._leads = {}
        self._gaps = {}

    def pairs(self):
        """The list of the pairs of states."""
        return pairs_of(self._machine, self._beside, self._one.size)

    def first_pair(self):
        """The pair of the first states."""
        return self._machine.first(), self._beside.first()

    def first_row(self):
        """The row of the first values and 1."""
        return (*first_values(self._one), *first_values(self._other), 1)

    def lead(self, pair, figure):
        """The tuple of the pair that comes next and the columns that make the row that comes next."""
        if (pair, figure) not in self._leads:
            state, matrix = self._machine.step(pair[0], figure)
            beside, more = self._beside.step(pair[1], figure)
            columns = [spread(column, 0, self._more) for column in list(zip(*matrix))[:-1]]
            columns = columns + [spread(column, self._many, 0) for column in zip(*more)]
            self._leads[pair, figure] = ((state, beside), columns)
        return self._leads[pair, figure]

    def gap(self, pair, figure):
        """The terms whose value on a row is the difference of the results if this is the highest figure.

        None if one of the programs is endless and the other one is not, and no terms if both are.
        """
        if (pair, figure) not in self._gaps:
            self._gaps[pair, figure] = self._gap(pair, figure)
        return self._gaps[pair, figure]

    def _gap(self, pair, figure):
        tail = self._machine.tail(pair[0], figure)
        beside = self._beside.tail(pair[1], figure)
        if tail is None and beside is None:
            return []
        if tail is None or beside is None:
            return None
        own = [weighed(self._one.result, line) for line in tail]
        others = [-weighed(self._other.result, line) for line in beside]
        return spread(own, 0, self._more) + spread(others, self._many, 0)

    def is_parted(self, pair, figure, row):
        """Whether the programs are not alike if this is the highest figure."""
        gap = self.gap(pair, figure)
        return gap is None or value_of(row, gap) != 0


def check_programs(one, other):
    """Refuse what are no two programs with bases of the same size."""
    if not isinstance(one, Program):
        raise InvalidProgram(one)
    if not isinstance(other, Program):
        raise InvalidProgram(other)
    if one.size != other.size:
        raise Unlike(one.size, other.size)


def check_meant(sign, modulus, remainder):
    """Refuse what cannot tell which numbers are meant."""
    if sign is not None and not is_sign(sign):
        raise InvalidSign(sign)
    if not is_between(modulus, 1, HIGHEST_MODULUS):
        raise InvalidNumber(modulus)
    if not is_between(remainder, 0, modulus - 1):
        raise InvalidNumber(remainder)


def is_alike_at(one, other, number):
    """Whether two programs are alike on a number."""
    return result_at(one, number) == result_at(other, number)


def signs_of(sign):
    """The signs of which the numbers are meant."""
    return (1, -1) if sign is None else (sign,)


def parting_word(couple, size, modulus, wanted, most):
    """The figures of a parting number, with the fewest of all whose size leaves a remainder, or None.

    The keys are tuples (pair, what the figures leave, what the next place leaves).
    """
    def follow(key, figure):
        pair, left, place = key
        behind, columns = couple.lead(pair, figure)
        return (behind, (left + figure * place) % modulus, place * size % modulus), columns

    def last_figure(key, row):
        pair, left, place = key
        for figure in range(1, size):
            if (left + figure * place) % modulus == wanted and couple.is_parted(pair, figure, row):
                return figure
        return None

    first = (couple.first_pair(), 0, 1 % modulus)
    return Search(first, couple.first_row(), size, follow).shortest(last_figure, most)


def parted(one, other, *, sign=None, modulus=1, remainder=0):
    """A number that parts two programs, with the fewest figures of all that are meant, or None."""
    check_programs(one, other)
    check_meant(sign, modulus, remainder)
    if sign != -1 and remainder == 0 and not is_alike_at(one, other, 0):
        return 0
    number = None
    most = None
    for own in signs_of(sign):
        word = parting_word(Couple(one, other, own), one.size, modulus, own * remainder % modulus, most)
        if word is not None:
            number = number_of(own, word, one.size)
            most = len(word) - 1
    return number


def require_alike(one, other, *, sign=None, modulus=1, remainder=0):
    """Raise an error with a number that parts two programs, if there is one."""
    number = parted(one, other, sign=sign, modulus=modulus, remainder=remainder)
    if number is not None:
        raise Parted(number)


def figure_bound(one, other):
    """The most figures that the least parting number can have, if there is one."""
    check_programs(one, other)
    pairs = Couple(one, other, 1).pairs()
    below = Couple(one, other, -1).pairs()
    return max(len(pairs), len(below)) * (len(one.registers()) + len(other.registers()) + 1)
