"""The five rules of division."""

from twodivisions.checks import RULES, is_base, is_between, is_integer, is_rule, is_sign
from twodivisions.errors import InvalidBase, InvalidNumber, InvalidRule, InvalidSign


def rule_names():
    """The list of the five rules."""
    return list(RULES)


def goes_up(rule, rest, base):
    """Whether the quotient is one above the greatest integer that is at most x / base.

    With that greatest integer the remainder is rest, which is not 0 and has the sign of the base.
    """
    if rule == "up":
        return True
    if rule == "positive":
        return rest < 0
    if rule == "near":
        # A base below 0 has a rest below 0; then the other remainder is the positive one.
        return 2 * abs(rest) > abs(base) or 2 * abs(rest) == abs(base) and rest < 0
    return False


def divide(rule, x, base):
    """The tuple (quotient, remainder) of a division by a rule."""
    if not is_rule(rule):
        raise InvalidRule(rule)
    if not is_integer(x):
        raise InvalidNumber(x)
    if not is_integer(base) or base == 0:
        raise InvalidBase(base)
    low = x // base
    rest = x - low * base
    if rule == "zero" and low < 0:
        rule = "up"
    if rest != 0 and goes_up(rule, rest, base):
        return low + 1, rest - base
    return low, rest


def carry(rule, sign, base, figure):
    """The tuple (next carry, remainder) of the division of sign * (B * m + figure), whichever m is."""
    if not is_rule(rule):
        raise InvalidRule(rule)
    if not is_sign(sign):
        raise InvalidSign(sign)
    if not is_base(base):
        raise InvalidBase(base)
    if not is_between(figure, 0, abs(base)):
        raise InvalidNumber(figure)
    # The carry does not depend on m, and with m = 0 the quotient is the carry with a sign.
    quotient, remainder = divide(rule, sign * figure, base)
    return abs(quotient), remainder
