"""Which modes of a program must keep their rule when it is moved to another rule."""

from twodivisions.checks import is_integer, is_rule
from twodivisions.comparing import is_alike_at, parted
from twodivisions.errors import InvalidProgram, InvalidRule, UnknownName
from twodivisions.papers import agreement_paper, check_agreement, is_tuples
from twodivisions.programs import Program


def sets_of(modes):
    """The list of the sets of modes, those with fewer modes and then those with earlier modes first."""
    sets = [()]
    at = 0
    while at < len(sets):
        kept = sets[at]
        behind = modes.index(kept[-1]) + 1 if kept != () else 0
        for mode in modes[behind:]:
            sets.append((*kept, mode))
        at += 1
    return sets


def least_of(sets):
    """The list of those sets within which no other one of them is."""
    least = []
    for kept in sets:
        # A set within this one has fewer modes, so it stands ahead.
        if not any([all([mode in kept for mode in fewer]) for fewer in least]):
            least.append(kept)
    return least


class Corrections:
    """A program that is moved to a rule, with some modes kept as they were."""

    def __init__(self, program, rule):
        if not isinstance(program, Program):
            raise InvalidProgram(program)
        if not is_rule(rule):
            raise InvalidRule(rule)
        self._program = program
        self._rule = rule
        self._partings = {}

    def _set_of(self, kept):
        # The set as a tuple, in the order of the program.
        if not isinstance(kept, (list, tuple)):
            raise UnknownName(kept)
        modes = self._program.modes()
        for mode in kept:
            if not (isinstance(mode, str) and mode in modes):
                raise UnknownName(mode)
        return tuple([mode for mode in modes if mode in kept])

    def moved(self, kept):
        """The program, moved to the rule, with these modes kept."""
        modes = self._set_of(kept)
        program = self._program
        for mode in self._program.modes():
            if mode not in modes:
                program = program.with_rule(mode, self._rule)
        return program

    def parting(self, kept):
        """A number that parts the moved program from the program, with the fewest figures, or None."""
        modes = self._set_of(kept)
        if modes not in self._partings:
            self._partings[modes] = parted(self._program, self.moved(modes))
        return self._partings[modes]

    def least(self):
        """The list of the least sets of modes."""
        return least_of([kept for kept in sets_of(self._program.modes()) if self.parting(kept) is None])

    def paper(self):
        """A correction paper that is right."""
        return tuple([(kept, *self._shown(kept)) for kept in sets_of(self._program.modes())])

    def _shown(self, kept):
        number = self.parting(kept)
        if number is not None:
            return number, None
        return None, agreement_paper(self._program, self.moved(kept))


def is_names(value):
    """Whether a value is a tuple of texts, which can be compared with sets of modes."""
    return isinstance(value, tuple) and all([isinstance(name, str) for name in value])


def is_shown(program, moved, number, paper):
    """Whether a number parts two programs, or else a paper shows that they are alike."""
    if number is None:
        return check_agreement(program, moved, paper)
    return is_integer(number) and paper is None and not is_alike_at(program, moved, number)


def check_corrections(program, rule, paper):
    """The list of the least sets of modes that a correction paper shows, or None if it is not right."""
    corrections = Corrections(program, rule)
    sets = sets_of(program.modes())
    if not is_tuples(paper, len(sets)):
        return None
    good = {}
    for row in paper:
        if len(row) != 3:
            return None
        kept, number, agreement = row
        if not is_names(kept) or kept not in sets or kept in good:
            return None
        if not is_shown(program, corrections.moved(kept), number, agreement):
            return None
        good[kept] = number is None
    return least_of([kept for kept in sets if good[kept]])
