"""Desks with a rule in force, and wholes that are divided by it."""

from twodivisions.checks import is_integer, is_rule
from twodivisions.errors import DivisionByZero, InvalidNumber, InvalidRule
from twodivisions.rules import divide


class RuleBlock:
    """A context manager: a desk has another rule in a block."""

    def __init__(self, desk, rule):
        self._desk = desk
        self._rule = rule
        self._elder = None

    def __enter__(self):
        self._elder = self._desk.rule
        self._desk.set_rule(self._rule)
        return self._desk

    def __exit__(self, kind, value, trace):
        desk = self._desk
        desk._rule = self._elder


class Desk:
    """A desk at which one rule of division is in force."""

    def __init__(self, rule="down"):
        if not is_rule(rule):
            raise InvalidRule(rule)
        self._rule = rule

    @property
    def rule(self):
        """The rule in force."""
        return self._rule

    @rule.setter
    def rule(self, value):
        self.set_rule(value)

    def set_rule(self, rule):
        """Put another rule in force."""
        if not is_rule(rule):
            raise InvalidRule(rule)
        self._rule = rule

    def make(self, value):
        """The whole of an integer at this desk."""
        if not is_integer(value):
            raise InvalidNumber(value)
        return Whole(self, value)

    def using(self, rule):
        """A context manager: the rule is in force in its block."""
        if not is_rule(rule):
            raise InvalidRule(rule)
        return RuleBlock(self, rule)

    def within(self, rule, call):
        """The result of call(), called while the rule is in force."""
        with self.using(rule):
            return call()


class Whole:
    """An integer at a desk, divided by the rule that is in force there."""

    def __init__(self, desk, amount):
        self._desk = desk
        self._amount = amount

    @property
    def amount(self):
        """The integer."""
        return self._amount

    def parts(self, other):
        """The tuple (quotient, remainder) of the division by an integer or a whole."""
        return self._divided(self._amount, amount_of(other))

    def _divided(self, x, base):
        if base == 0:
            raise DivisionByZero()
        return divide(self._desk.rule, x, base)

    def __floordiv__(self, other):
        if not is_amount(other):
            return NotImplemented
        return Whole(self._desk, self.parts(other)[0])

    def __mod__(self, other):
        if not is_amount(other):
            return NotImplemented
        return Whole(self._desk, self.parts(other)[1])

    def __rfloordiv__(self, other):
        if not is_amount(other):
            return NotImplemented
        return Whole(self._desk, self._divided(other, self._amount)[0])

    def __rmod__(self, other):
        if not is_amount(other):
            return NotImplemented
        return Whole(self._desk, self._divided(other, self._amount)[1])

    def __ifloordiv__(self, other):
        if not is_amount(other):
            return NotImplemented
        self._amount = self.parts(other)[0]
        return self

    def __imod__(self, other):
        if not is_amount(other):
            return NotImplemented
        self._amount = self.parts(other)[1]
        return self

    def __eq__(self, other):
        return isinstance(other, Whole) and self._amount == other._amount


def is_amount(value):
    """Whether a whole can be divided by a value: an integer or a whole."""
    return is_integer(value) or isinstance(value, Whole)


def amount_of(value):
    """The integer of an integer or a whole."""
    return value.amount if isinstance(value, Whole) else value
