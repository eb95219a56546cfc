"""What several tests use: values of all kinds, programs, and runs that are played by the words of the document."""

import math
import random
import unittest
from fractions import Fraction

from twodivisions import errors
from twodivisions.programs import Program

RULES = ["down", "up", "zero", "positive", "near"]

# Each error with the one of Python's errors above it and its fields.
ERRORS = {
    "InvalidRule": (ValueError, ["value"]),
    "InvalidNumber": (ValueError, ["value"]),
    "InvalidBase": (ValueError, ["value"]),
    "InvalidName": (ValueError, ["value"]),
    "InvalidRegisters": (ValueError, ["number"]),
    "InvalidModes": (ValueError, ["number"]),
    "InvalidRow": (ValueError, ["mode", "number"]),
    "InvalidEnds": (ValueError, ["value"]),
    "InvalidResult": (ValueError, ["value"]),
    "InvalidProgram": (ValueError, ["value"]),
    "InvalidFigures": (ValueError, ["value"]),
    "InvalidState": (ValueError, ["value"]),
    "InvalidText": (ValueError, ["line"]),
    "InvalidRatio": (ValueError, ["value"]),
    "InvalidRows": (ValueError, ["value"]),
    "InvalidForm": (ValueError, ["value"]),
    "InvalidSign": (ValueError, ["value"]),
    "InvalidMachine": (ValueError, ["value"]),
    "InvalidPieces": (ValueError, ["number"]),
    "InvalidCommand": (ValueError, ["word"]),
    "UnknownName": (LookupError, ["value"]),
    "Endless": (ArithmeticError, ["number"]),
    "DivisionByZero": (ArithmeticError, []),
    "Parted": (RuntimeError, ["number"]),
    "Unlike": (RuntimeError, ["one", "other"]),
    "Broken": (RuntimeError, ["number"]),
    "Guarded": (RuntimeError, ["condition", "number"]),
    "NothingToUndo": (RuntimeError, []),
    "NothingToRedo": (RuntimeError, []),
    "NoTrial": (RuntimeError, []),
    "LimitExceeded": (OverflowError, ["most"]),
}

# Values of all kinds; none of them is an integer, a rule, a name that a test uses, or a part of a program.
STRANGE = [
    None, True, False, "", "Down", "down ", "downs", "-1", "1", "0", b"down", b"", [], ["down"], [1], {}, {"down": 1},
    set(), {1}, frozenset(), object(), len, int, range(2), Exception("down"), [[]], (), ([],), ({},),
]

# Those that are no list and no tuple.
UNLISTED = [value for value in STRANGE if not isinstance(value, (list, tuple))]


class Case(unittest.TestCase):
    """A test case that looks at the fields of errors."""

    def refused(self, name, fields, call, *values, **named):
        """Check that a call raises just this error with these fields."""
        error = getattr(errors, name)
        with self.assertRaises(error) as caught:
            call(*values, **named)
        self.assertIs(type(caught.exception), error)
        for field, wanted in zip(ERRORS[name][1], fields, strict=True):
            told = getattr(caught.exception, field)
            self.assertIs(type(told), type(wanted), (name, field, told, wanted))
            self.assertTrue(told is wanted or told == wanted, (name, field, told, wanted))


def rank_of(rows):
    """The rank of some rows of numbers, by elimination on fractions."""
    left = [[Fraction(entry) for entry in row] for row in rows]
    rank = 0
    for place in range(len(left[0]) if left else 0):
        leads = [row for row in left if row[place] != 0]
        if leads:
            rank += 1
            lead = leads[0]
            left = [row for row in left if row is not lead]
            left = [[a - row[place] / lead[place] * b for a, b in zip(row, lead)] for row in left]
    return rank


def divided(rule, x, base):
    """The quotient and the remainder by the words of the table of rules."""
    exact = Fraction(x, base)
    if rule == "down":
        return math.floor(exact), x - math.floor(exact) * base
    if rule == "up":
        return math.ceil(exact), x - math.ceil(exact) * base
    if rule == "zero":
        return math.trunc(exact), x - math.trunc(exact) * base
    pairs = [(q, x - q * base) for q in range(math.floor(exact) - 1, math.ceil(exact) + 2)]
    pairs = [(q, d) for q, d in pairs if abs(d) < abs(base)]
    if rule == "positive":
        pairs = [(q, d) for q, d in pairs if d >= 0]
    else:
        pairs = [(q, d) for q, d in pairs if 2 * abs(d) <= abs(base)]
    return max(pairs, key=lambda pair: pair[1])


def in_force(rows, sign, remainder):
    """The tuple (updates, then) of the row in force."""
    for wanted in [(sign, remainder), (None, remainder), (sign, None), (None, None)]:
        for row in rows:
            if row[:2] == wanted:
                return row[2:]
    raise AssertionError("no row in force")


def weigh(factors, values):
    """The sum of the products."""
    assert len(factors) == len(values)
    return sum(factor * value for factor, value in zip(factors, values))


def play(parts, number):
    """The run of the program with these parts, as a dict, by the words of the document."""
    base, registers, modes, ends, result = parts
    told = {"rounds": [], "registers": [tuple(first for _, first in registers)], "ring": None, "last": None}
    mode, x = modes[0][0], number
    while True:
        ahead = [(name, left) for name, left, _ in told["rounds"]]
        if (mode, x) in ahead:
            index = ahead.index((mode, x))
            return {**told, "how": "endless", "ring": (index, len(ahead) - index), "result": None}
        if x in ends:
            told = {**told, "how": "rests", "last": x}
            break
        rule, rows = [(rule, rows) for name, rule, rows in modes if name == mode][0]
        quotient, remainder = divided(rule, x, base)
        updates, then = in_force(rows, (x > 0) - (x < 0), remainder)
        values = [*told["registers"][-1], remainder, 1]
        told["rounds"].append((mode, x, remainder))
        told["registers"].append(tuple(weigh(update, values) for update in updates))
        if then is None:
            told = {**told, "how": "stops", "last": quotient}
            break
        mode, x = then, quotient
    return {**told, "result": weigh(result, [*told["registers"][-1], 1])}


def play_from(parts, mode, x, registers):
    """The run from a mode, an x and registers on, as play tells it."""
    base, names, modes, ends, result = parts
    first = [told for told in modes if told[0] == mode]
    rest = [told for told in modes if told[0] != mode]
    values = [(name, value) for (name, _), value in zip(names, registers, strict=True)]
    return play((base, values, first + rest, ends, result), x)


def figures_in(number, size):
    """How many figures a number has."""
    many = 0
    while abs(number) >= size ** many:
        many += 1
    return many


def numbers_up_to(figures, size):
    """All integers of at most so many figures, by size, of two the one below 0 first."""
    return [0, *(number for m in range(1, size ** figures) for number in (-m, m))]


def random_parts(chance, size=None):
    """The parts of some program, of a size if it is told."""
    size = chance.randint(2, 10) if size is None else size
    names = chance.sample(["a", "bc", "mode", "zzzzzzzz"], chance.randint(1, 4))
    many = chance.randint(1, 3)
    registers = [(name, chance.randint(-5, 5)) for name in chance.sample(["a", "r", "sum", "last"], many)]
    keys = [(s, d) for s in [-1, 0, 1, None] for d in [None, *range(1 - size, size)] if (s, d) != (None, None)]
    modes = []
    for name in names:
        taken = chance.sample(keys, chance.randint(0, min(len(keys), 8))) + [(None, None)]
        chance.shuffle(taken)
        rows = [(s, d, random_updates(chance, many), chance.choice([*names * 3, None])) for s, d in taken]
        modes.append((name, chance.choice(RULES), rows))
    ends = sorted(chance.sample(range(1 - size, size), chance.randint(0, 3)))
    result = tuple(chance.randint(-3, 3) for _ in range(many + 1))
    return chance.choice([-1, 1]) * size, registers, modes, ends, result


def random_updates(chance, many):
    """The updates of some row."""
    return tuple(tuple(chance.randint(-3, 3) for _ in range(many + 2)) for _ in range(many))


def random_numbers(chance):
    """Some numbers: small ones, 0, and long ones of both signs."""
    long = chance.randint(10 ** 20, 10 ** 40)
    return [*range(-12, 13), chance.randint(-999, 999), long, -long]


def some_parts(many, size=None):
    """The parts of so many programs, the same at each call."""
    chance = random.Random(20)
    return [random_parts(chance, size) for _ in range(many)]


STEP = ((10, 1, 0),)
TOTAL = ((1, 1, 0),)


def turned():
    """Writes the figures of a number the other way round."""
    return Program(10, [("r", 0)], [("m", "zero", [(None, None, STEP, "m")])], [0], (1, 0))


def sums():
    """Adds the figures of a number; 'down' never ends on numbers below 0."""
    return Program(10, [("s", 0)], [("m", "zero", [(None, None, TOTAL, "m")])], [0], (1, 0))


def two_modes():
    """Has two modes with unlike rules, a base below 0, and rows of all four kinds."""
    keep = ((1, 0, 0, 0), (0, 1, 0, 1))
    take = ((1, 2, 1, 0), (0, 1, 1, -3))
    rows = [(None, None, keep, "even"), (1, 2, take, "odd"), (None, -1, take, "odd"), (-1, None, keep, "odd")]
    back = [(0, 0, keep, None), (None, None, take, "even")]
    return Program(-4, [("a", 5), ("b", -7)], [("odd", "near", rows), ("even", "up", back)], [-3, 0], (1, -2, 9))
