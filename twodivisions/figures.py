"""The figures of numbers, and what of them is left ahead of each round of a run."""

from twodivisions.checks import is_between, is_integer, is_sign
from twodivisions.errors import InvalidBase, InvalidFigures, InvalidNumber, InvalidSign
from twodivisions.running import run


def is_word(value, size):
    """Whether a value is a tuple of figures for a size."""
    return isinstance(value, tuple) and all([is_between(figure, 0, size - 1) for figure in value])


def is_figures(value, size):
    """Whether a value is a tuple of figures for a size, the highest one not 0."""
    return is_word(value, size) and (len(value) == 0 or value[-1] != 0)


def figures_of(number, size):
    """The tuple of the figures of an integer, lowest first."""
    if not is_integer(number):
        raise InvalidNumber(number)
    if not is_between(size, 2, 10):
        raise InvalidBase(size)
    figures = []
    left = abs(number)
    while left > 0:
        figures.append(left % size)
        left = left // size
    return tuple(figures)


def number_of(sign, figures, size):
    """The integer with a sign and figures, lowest first."""
    if not is_sign(sign):
        raise InvalidSign(sign)
    if not is_between(size, 2, 10):
        raise InvalidBase(size)
    if not is_figures(figures, size):
        raise InvalidFigures(figures)
    total = 0
    for figure in figures[::-1]:
        total = total * size + figure
    return sign * total


def standings(program, number):
    """The list of the tuples (mode, sign, m, carry) ahead of each round of a run with a division."""
    rounds = run(program, number).rounds()
    # The sign of 0 stays 1, even if the base is below 0.
    turn = -1 if program.base < 0 and number != 0 else 1
    sign = -1 if number < 0 else 1
    left = abs(number)
    told = []
    for mode, x, _ in rounds:
        told.append((mode, sign, left, sign * x - left))
        sign = sign * turn
        left = left // program.size
    return told
