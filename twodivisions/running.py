"""Runs of programs, round by round."""

from twodivisions.checks import is_between, is_integer
from twodivisions.errors import InvalidNumber
from twodivisions.programs import result_of, walk


class Run:
    """The run of a program on an integer."""

    def __init__(self, program, number):
        how, last, rounds, kept, ring = walk(program, number)
        self._program = program
        self._number = number
        self._how = how
        self._last = last
        self._rounds = rounds
        self._kept = kept
        self._ring = ring

    @property
    def how(self):
        """How the run goes: 'rests', 'stops' or 'endless'."""
        return self._how

    @property
    def result(self):
        """The result, or None if the run is endless."""
        if self._how == "endless":
            return None
        return result_of(self._program, self._kept[-1])

    @property
    def last(self):
        """The x with which the run rests, or the last quotient if it stops, or None."""
        return self._last

    def rounds(self):
        """The list of the tuples (mode, x, remainder) of the rounds with a division."""
        return list(self._rounds)

    def registers(self, at):
        """The tuple of the registers ahead of a round, or behind the last one."""
        if not is_between(at, 0, len(self._rounds)):
            raise InvalidNumber(at)
        return self._kept[at]

    def ring(self):
        """The tuple (index, length) of an endless run: the round that comes again, and behind how many."""
        return self._ring

    def __len__(self):
        return len(self._rounds)

    def __iter__(self):
        return iter(self._rounds)

    def __eq__(self, other):
        return isinstance(other, Run) and self._number == other._number and self._program == other._program


def run(program, number):
    """The run of a program on an integer."""
    if not is_integer(number):
        raise InvalidNumber(number)
    return Run(program, number)
