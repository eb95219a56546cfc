"""Rows of ratios."""

from twodivisions.checks import is_between, is_integer
from twodivisions.errors import InvalidForm, InvalidNumber, InvalidRows
from twodivisions.ratios import Ratio, is_number, ratio_of

WIDEST = 12


def is_form(value, width):
    """Whether a value is a tuple of so many integers."""
    return isinstance(value, tuple) and len(value) == width and all([is_integer(entry) for entry in value])


class Row:
    """A row of 1 to 12 ratios; it never changes."""

    def __init__(self, *entries):
        for entry in entries:
            if not is_number(entry):
                raise InvalidRows(entry)
        if not 1 <= len(entries) <= WIDEST:
            raise InvalidRows(None)
        self._ratios = [ratio_of(entry) for entry in entries]

    def __len__(self):
        return len(self._ratios)

    def __getitem__(self, place):
        if not is_between(place, 0, len(self._ratios) - 1):
            raise InvalidNumber(place)
        return self._ratios[place]

    def __iter__(self):
        raise TypeError("a row cannot be iterated")

    def dot(self, form):
        """The value of a form."""
        if not is_form(form, len(self._ratios)):
            raise InvalidForm(form)
        total = Ratio(0)
        for ratio, factor in zip(self._ratios, form):
            total = total + ratio * factor
        return total

    def is_zero(self):
        """Whether all entries are 0."""
        return all([ratio.top == 0 for ratio in self._ratios])

    def _check(self, other):
        if len(self._ratios) != len(other._ratios):
            raise InvalidRows(other)

    def __add__(self, other):
        if not isinstance(other, Row):
            return NotImplemented
        self._check(other)
        sums = [one + more for one, more in zip(self._ratios, other._ratios)]
        return Row(*sums)

    def __sub__(self, other):
        if not isinstance(other, Row):
            return NotImplemented
        self._check(other)
        rests = [one - less for one, less in zip(self._ratios, other._ratios)]
        return Row(*rests)

    def __mul__(self, other):
        if not is_number(other):
            return NotImplemented
        multiples = [ratio * other for ratio in self._ratios]
        return Row(*multiples)

    def __rmul__(self, other):
        return self * other

    def __eq__(self, other):
        return isinstance(other, Row) and self._ratios == other._ratios
