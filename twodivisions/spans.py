"""Spans of rows, and the elimination on rows of integers that they rest on.

An echelon is a list of tuples (place, row): each row is a list or tuple of integers, not 0 at its place,
at which all rows behind it are 0.
"""

from math import gcd, lcm

from twodivisions.checks import is_between
from twodivisions.errors import InvalidNumber, InvalidRows
from twodivisions.ratios import Ratio
from twodivisions.rows import WIDEST, Row


def lowest(row):
    """The row divided by the greatest common divisor of its integers."""
    common = 0
    for entry in row:
        common = gcd(common, entry)
    return row if common <= 1 else [entry // common for entry in row]


def lead_of(row):
    """The index of the first entry that is not 0, or None."""
    for place, entry in enumerate(row):
        if entry != 0:
            return place
    return None


def reduced(echelon, row):
    """A multiple of the row less multiples of those of the echelon, which is 0 at their places."""
    for place, line in echelon:
        if row[place] != 0:
            common = gcd(row[place], line[place])
            times = line[place] // common
            less = row[place] // common
            row = [times * entry - less * other for entry, other in zip(row, line)]
    return lowest(row)


def grown(echelon, row):
    """The echelon with a further row, or the same one if its rows have the row in their span."""
    rest = reduced(echelon, row)
    place = lead_of(rest)
    return echelon if place is None else [*echelon, (place, rest)]


def full_of(echelon):
    """The echelon with this span whose rows are 0 at the places of all others."""
    full = []
    for place, row in echelon[::-1]:
        full = [(place, reduced(full, row)), *full]
    return full


def parts_of(full, row, ahead):
    """The tuple (whole, parts ..): whole times a row is the sum of the parts times some rows.

    The rows are so many ahead, whose parts are 0, and those of a full echelon with the row in its span.
    """
    whole = 1
    for place, line in full:
        whole = lcm(whole, line[place] // gcd(line[place], row[place]))
    return (whole, *[0] * ahead, *[whole * row[place] // line[place] for place, line in full])


def forms_of(echelon, width):
    """The list of the forms that are 0 on all rows of an echelon of this width."""
    full = full_of(echelon)
    leads = [place for place, _ in full]
    scale = 1
    for place, row in full:
        scale = lcm(scale, row[place])
    forms = []
    for free in range(width):
        if free not in leads:
            form = [0] * width
            form[free] = scale
            for place, row in full:
                form[place] = -row[free] * (scale // row[place])
            forms.append(upright(form))
    return forms


def upright(form):
    """The form in lowest terms, its first integer other than 0 above 0, as a tuple."""
    low = lowest(form)
    if low[lead_of(low)] < 0:
        return tuple([-entry for entry in low])
    return tuple(low)


def marked(row, at, many):
    """The entries of a row as integers, and behind them so many marks, 0 but for the one with an index.

    The mark tells with which number the row is multiplied to have integers. The marks go with the entries through
    an elimination, so they tell behind a sum of multiples of rows which multiples of which rows these are.
    """
    common = 1
    for place in range(len(row)):
        common = lcm(common, row[place].bottom)
    entries = [row[place].top * (common // row[place].bottom) for place in range(len(row))]
    return entries + [common if place == at else 0 for place in range(many)]


class Span:
    """The span of some rows; it never changes."""

    def __init__(self, width):
        if not is_between(width, 1, WIDEST):
            raise InvalidNumber(width)
        self._width = width
        self._echelon = []
        self._rows = []
        # For each row that was added, the index that it has in rows(), or None.
        self._order = []

    @property
    def width(self):
        """The width of the rows."""
        return self._width

    @property
    def rank(self):
        """The least number of rows that have this span."""
        return len(self._rows)

    def _is_wide(self, row):
        return isinstance(row, Row) and len(row) == self._width

    def _reduced(self, row):
        return reduced(self._echelon, marked(row, len(self._rows), self._width + 1))

    def added(self, row):
        """The span with a further row."""
        if not self._is_wide(row):
            raise InvalidRows(row)
        span = Span(self._width)
        rest = self._reduced(row)
        place = lead_of(rest)
        if place < self._width:
            span._echelon = [*self._echelon, (place, rest)]
            span._rows = [*self._rows, row]
            span._order = [*self._order, len(self._rows)]
        else:
            span._echelon = self._echelon
            span._rows = self._rows
            span._order = [*self._order, None]
        return span

    def __contains__(self, row):
        return self._is_wide(row) and lead_of(self._reduced(row)) >= self._width

    def parts(self, row):
        """The list of the ratios, one for each added row, with which the row is their sum, or None."""
        if row not in self:
            return None
        marks = self._reduced(row)[self._width:]
        whole = marks[len(self._rows)]
        return [Ratio(0) if at is None else Ratio(-marks[at], whole) for at in self._order]

    def rows(self):
        """The list of the rows that were not in the span of those added ahead of them."""
        return list(self._rows)

    def forms(self):
        """The list of the forms that are 0 on all rows."""
        return forms_of(self._echelon, self._width)

    def __le__(self, other):
        if not isinstance(other, Span):
            return NotImplemented
        if self._width != other._width:
            raise InvalidRows(other)
        return all([row in other for row in self._rows])

    def __eq__(self, other):
        if not isinstance(other, Span) or self._width != other._width:
            return False
        return len(self._rows) == len(other._rows) and self <= other
