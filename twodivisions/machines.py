"""Programs as machines that read the figures of a number, lowest first."""

from twodivisions.checks import is_between, is_sign
from twodivisions.errors import InvalidFigures, InvalidNumber, InvalidSign, InvalidState
from twodivisions.figures import is_figures
from twodivisions.programs import first_mode, first_values, path_of, result_of, walk, weighed
from twodivisions.rules import carry


def unit_of(many):
    """The matrix with so many rows and columns that changes nothing."""
    return tuple([tuple([1 if at == place else 0 for at in range(many)]) for place in range(many)])


def row_times(row, matrix):
    """The row behind a matrix."""
    return tuple([weighed(column, row) for column in zip(*matrix)])


def matrix_of(updates, remainder):
    """The matrix of one round."""
    many = len(updates)
    lines = [tuple([update[at] for update in updates]) + (0,) for at in range(many)]
    last = [update[many] * remainder + update[many + 1] for update in updates]
    return (*lines, (*last, 1))


class Machine:
    """A program that reads the figures of the numbers with a sign."""

    def __init__(self, program, sign):
        if not is_sign(sign):
            raise InvalidSign(sign)
        self._program = program
        self._first = (first_mode(program), sign, 0)
        self._unit = unit_of(len(program.registers()) + 1)
        self._steps = {}
        self._tails = {}
        found = [self._first]
        at = 0
        while at < len(found):
            state = found[at]
            self._steps[state] = [self._round(state, figure) for figure in range(program.size)]
            self._tails[state] = [self._rest(state, figure) for figure in range(1, program.size)]
            for behind, _ in self._steps[state]:
                if behind not in found:
                    found.append(behind)
            at += 1

    def _round(self, state, figure):
        if state == ():
            return (), self._unit
        mode, sign, extra = state
        program = self._program
        behind, remainder = carry(program.rule_of(mode), sign, program.base, figure + extra)
        updates, then = program[mode, sign, remainder]
        matrix = matrix_of(updates, remainder)
        if then is None:
            return (), matrix
        return (then, sign if program.base > 0 else -sign, behind), matrix

    def _rest(self, state, figure):
        if state == ():
            return self._unit
        mode, sign, extra = state
        how, _, rounds, changes, _ = path_of(self._program, mode, sign * (figure + extra))
        if how == "endless":
            return None
        lines = self._unit
        for (_, _, remainder), updates in zip(rounds, changes):
            matrix = matrix_of(updates, remainder)
            lines = tuple([row_times(line, matrix) for line in lines])
        return lines

    def first(self):
        """The first state."""
        return self._first

    def states(self):
        """The list of the states, in the order of a breadth-first search that tries lesser figures first."""
        return list(self._steps)

    def step(self, state, figure):
        """The tuple of the state and the matrix behind a figure that is not the highest one."""
        self._check(state, figure, 0)
        return self._steps[state][figure]

    def tail(self, state, figure):
        """The matrix of all rounds from the highest figure on, or None if the run is endless."""
        self._check(state, figure, 1)
        return self._tails[state][figure - 1]

    def _check(self, state, figure, least):
        if not (is_state(state) and state in self._steps):
            raise InvalidState(state)
        if not is_between(figure, least, self._program.size - 1):
            raise InvalidNumber(figure)

    def __call__(self, figures):
        if not is_figures(figures, self._program.size) or figures == ():
            raise InvalidFigures(figures)
        state = self._first
        row = (*first_values(self._program), 1)
        for figure in figures[:-1]:
            state, matrix = self._steps[state][figure]
            row = row_times(row, matrix)
        tail = self._tails[state][figures[-1] - 1]
        if tail is None:
            return None
        return result_of(self._program, row_times(row, tail)[:-1])


def is_state(value):
    """Whether a value can be a state of some machine."""
    if not (isinstance(value, tuple) and len(value) in (0, 3)):
        return False
    if len(value) == 0:
        return True
    mode, sign, extra = value
    return isinstance(mode, str) and is_sign(sign) and is_between(extra, 0, 1)


def pairs_of(machine, other, size):
    """The list of the pairs of states to which the same figures lead two machines."""
    found = [(machine.first(), other.first())]
    known = {found[0]: True}
    at = 0
    while at < len(found):
        state, beside = found[at]
        for figure in range(size):
            pair = (machine.step(state, figure)[0], other.step(beside, figure)[0])
            if pair not in known:
                known[pair] = True
                found.append(pair)
        at += 1
    return found


def zero_row(program):
    """The tuple of the registers at the end of the run on 0, or None if it is endless."""
    how, _, _, kept, _ = walk(program, 0)
    return None if how == "endless" else kept[-1]
