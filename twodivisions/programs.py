"""Programs: loops with a base, registers, modes with rows, ends, and a result."""

from twodivisions.checks import check_program, is_between, is_integer, is_remainder, is_rule
from twodivisions.errors import Endless, InvalidNumber, InvalidRule, InvalidSign, UnknownName
from twodivisions.rules import divide


def table_of(rows):
    """The rows of a mode as a dict: (sign, remainder) to (updates, then)."""
    return {(sign, remainder): (updates, then) for sign, remainder, updates, then in rows}


def is_same(one, other):
    """Whether any value is this sign or remainder of a row, which is an integer or None."""
    if one is None:
        return other is None
    return is_integer(other) and one == other


def place_of(rows, sign, remainder):
    """The index of the row for a sign and a remainder, any values; if there is none, the number of rows."""
    for at, row in enumerate(rows):
        if is_same(row[0], sign) and is_same(row[1], remainder):
            return at
    return len(rows)


class Program:
    """A program; it never changes."""

    def __init__(self, base, registers, modes, ends, result):
        check_program(base, registers, modes, ends, result)
        self._base = base
        self._registers = tuple(registers)
        self._modes = tuple([(name, rule, tuple(rows)) for name, rule, rows in modes])
        self._ends = tuple(ends)
        self._result = result
        self._tables = {name: table_of(rows) for name, _, rows in modes}

    @property
    def base(self):
        """The base."""
        return self._base

    @property
    def size(self):
        """The size of the base."""
        return abs(self._base)

    @property
    def ends(self):
        """The tuple of the ends."""
        return self._ends

    @property
    def result(self):
        """The tuple of the coefficients of the result and its constant."""
        return self._result

    def registers(self):
        """The list of the tuples (name, first value)."""
        return list(self._registers)

    def modes(self):
        """The list of the names of the modes."""
        return [name for name, _, _ in self._modes]

    def rule_of(self, mode):
        """The rule of a mode."""
        return self._mode(mode)[1]

    def rows_of(self, mode):
        """The list of the rows of a mode, in the given order."""
        return list(self._mode(mode)[2])

    def _mode(self, mode):
        # Any value may be asked for, so only a text is compared with the names.
        if isinstance(mode, str):
            for told in self._modes:
                if told[0] == mode:
                    return told
        raise UnknownName(mode)

    def __getitem__(self, at):
        mode, sign, remainder = at
        name = self._mode(mode)[0]
        if not is_between(sign, -1, 1):
            raise InvalidSign(sign)
        if not is_remainder(remainder, self.size):
            raise InvalidNumber(remainder)
        table = self._tables[name]
        for key in ((sign, remainder), (None, remainder), (sign, None)):
            if key in table:
                return table[key]
        return table[None, None]

    def __iter__(self):
        raise TypeError("a program cannot be iterated")

    def __call__(self, number):
        if not is_integer(number):
            raise InvalidNumber(number)
        result = result_at(self, number)
        if result is None:
            raise Endless(number)
        return result

    def changed(self, *, base=None, ends=None, result=None):
        """The program with other values in those that are not None."""
        return Program(
            self._base if base is None else base,
            self._registers,
            self._modes,
            self._ends if ends is None else ends,
            self._result if result is None else result,
        )

    def with_rule(self, mode, rule):
        """The program with another rule of a mode."""
        name, _, rows = self._mode(mode)
        if not is_rule(rule):
            raise InvalidRule(rule)
        return self._with_mode(name, rule, rows)

    def under(self, rule):
        """The program with this rule in all modes."""
        if not is_rule(rule):
            raise InvalidRule(rule)
        modes = [(name, rule, rows) for name, _, rows in self._modes]
        return Program(self._base, self._registers, modes, self._ends, self._result)

    def with_row(self, mode, sign, remainder, updates, then):
        """The program with this row in place of the one for the sign and the remainder, or behind the others."""
        name, rule, rows = self._mode(mode)
        at = place_of(rows, sign, remainder)
        row = (sign, remainder, updates, then)
        return self._with_mode(name, rule, (*rows[:at], row, *rows[at + 1:]))

    def _with_mode(self, name, rule, rows):
        modes = [(name, rule, rows) if told[0] == name else told for told in self._modes]
        return Program(self._base, self._registers, modes, self._ends, self._result)

    def __eq__(self, other):
        return isinstance(other, Program) and self._parts() == other._parts()

    def _parts(self):
        # The order of the rows of a mode does not count: dicts are equal in any order.
        modes = [(name, rule, self._tables[name]) for name, rule, _ in self._modes]
        return self._base, self._registers, modes, self._ends, self._result


def sign_of(x):
    """The sign of an integer: -1, 0 or 1."""
    if x > 0:
        return 1
    return -1 if x < 0 else 0


def weighed(factors, values):
    """The sum of the products of factors and values."""
    return sum([factor * value for factor, value in zip(factors, values)])


def result_of(program, registers):
    """The result of a run that ends with these registers."""
    return weighed(program.result, (*registers, 1))


def path_of(program, mode, x):
    """The rounds of a run from a mode and an x on, as the tuple (how, last, rounds, changes, ring).

    The rounds are tuples (mode, x, remainder); changes has the updates of each of them. The others are
    told as by a Run.
    """
    rounds = []
    changes = []
    seen = {}
    while (mode, x) not in seen:
        if x in program.ends:
            return "rests", x, rounds, changes, None
        seen[mode, x] = len(rounds)
        quotient, remainder = divide(program.rule_of(mode), x, program.base)
        updates, then = program[mode, sign_of(x), remainder]
        rounds.append((mode, x, remainder))
        changes.append(updates)
        if then is None:
            return "stops", quotient, rounds, changes, None
        mode = then
        x = quotient
    index = seen[mode, x]
    return "endless", None, rounds, changes, (index, len(rounds) - index)


def first_mode(program):
    """The mode in which a run begins."""
    return program.modes()[0]


def first_values(program):
    """The tuple of the registers ahead of a run."""
    return tuple([first for _, first in program.registers()])


def walk(program, number):
    """The run on an integer, as the tuple (how, last, rounds, kept, ring).

    It is as path_of tells it; but kept has the registers ahead of each round and behind the last one.
    """
    how, last, rounds, changes, ring = path_of(program, first_mode(program), number)
    registers = first_values(program)
    kept = [registers]
    for (_, _, remainder), updates in zip(rounds, changes):
        values = (*registers, remainder, 1)
        registers = tuple([weighed(update, values) for update in updates])
        kept.append(registers)
    return how, last, rounds, kept, ring


def is_endless(program, number):
    """Whether the run on an integer never ends."""
    return path_of(program, first_mode(program), number)[0] == "endless"


def result_at(program, number):
    """The result of the run on an integer, or None if it is endless."""
    how, _, _, kept, _ = walk(program, number)
    return None if how == "endless" else result_of(program, kept[-1])
