"""Ratios: whole numbers divided by whole numbers."""

from math import gcd

from twodivisions.checks import is_integer
from twodivisions.errors import DivisionByZero, InvalidRatio


class Ratio:
    """A ratio in lowest terms; it never changes."""

    def __init__(self, top, bottom=1):
        if not is_integer(top):
            raise InvalidRatio(top)
        if not is_integer(bottom):
            raise InvalidRatio(bottom)
        if bottom == 0:
            raise DivisionByZero()
        common = gcd(top, bottom)
        if bottom < 0:
            common = -common
        self._top = top // common
        self._bottom = bottom // common

    @property
    def top(self):
        """The number above, in lowest terms."""
        return self._top

    @property
    def bottom(self):
        """The number below, in lowest terms, from 1 on."""
        return self._bottom

    def over(self, other):
        """The quotient by a ratio or an integer."""
        divisor = ratio_of(other)
        return Ratio(self._top * divisor._bottom, self._bottom * divisor._top)

    def __add__(self, other):
        if not is_number(other):
            return NotImplemented
        more = ratio_of(other)
        return Ratio(self._top * more._bottom + more._top * self._bottom, self._bottom * more._bottom)

    def __sub__(self, other):
        if not is_number(other):
            return NotImplemented
        return self + -ratio_of(other)

    def __mul__(self, other):
        if not is_number(other):
            return NotImplemented
        factor = ratio_of(other)
        return Ratio(self._top * factor._top, self._bottom * factor._bottom)

    def __radd__(self, other):
        return self + other

    def __rsub__(self, other):
        return -self + other

    def __rmul__(self, other):
        return self * other

    def __neg__(self):
        return Ratio(-self._top, self._bottom)

    def __lt__(self, other):
        if not isinstance(other, Ratio):
            return NotImplemented
        return self._top * other._bottom < other._top * self._bottom

    def __le__(self, other):
        if not isinstance(other, Ratio):
            return NotImplemented
        return self._top * other._bottom <= other._top * self._bottom

    def __gt__(self, other):
        if not isinstance(other, Ratio):
            return NotImplemented
        return self._top * other._bottom > other._top * self._bottom

    def __ge__(self, other):
        if not isinstance(other, Ratio):
            return NotImplemented
        return self._top * other._bottom >= other._top * self._bottom

    def __eq__(self, other):
        return isinstance(other, Ratio) and self._top == other._top and self._bottom == other._bottom


def is_number(value):
    """Whether a value is an integer or a ratio."""
    return is_integer(value) or isinstance(value, Ratio)


def ratio_of(value):
    """The ratio of an integer or a ratio."""
    return value if isinstance(value, Ratio) else Ratio(value)
