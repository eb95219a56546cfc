"""Books: programs by name and guards, which are kept at all times."""

from twodivisions.checks import is_integer, is_name, is_sign
from twodivisions.comparing import parted
from twodivisions.endless import EndlessNumbers
from twodivisions.errors import (
    Broken, Endless, Guarded, InvalidCommand, InvalidForm, InvalidName, InvalidProgram, InvalidSign, NothingToRedo,
    NothingToUndo, NoTrial, Parted, UnknownName, Unlike,
)
from twodivisions.journals import closed_text, guard_words, put_lines
from twodivisions.programs import Program
from twodivisions.relations import Relations
from twodivisions.rows import is_form

# How many arguments a guard of a kind has, and how many of them, the first ones, are names.
ARGUMENTS = {"alike": 2, "relation": 2, "ends": 1}
NAMES = {"alike": 2, "relation": 1, "ends": 1}


def is_same(one, other):
    """Whether any value is this part of a guard, or this guard: True is not 1."""
    if isinstance(one, tuple):
        if not (isinstance(other, tuple) and len(one) == len(other)):
            return False
        return all([is_same(part, beside) for part, beside in zip(one, other)])
    if one is None:
        return other is None
    if isinstance(one, str):
        return isinstance(other, str) and one == other
    return is_integer(other) and one == other


def names_of(guard):
    """The tuple of the names of a guard."""
    return guard[1:1 + NAMES[guard[0]]]


def least_endless(program, sign):
    """An endless number of a program with the fewest figures that has the sign, or None."""
    endless = EndlessNumbers(program)
    if sign is not None:
        return endless.least(sign)
    one, other = endless.least(1), endless.least(-1)
    if one is None or other is None:
        return other if one is None else one
    return one if one <= -other else other


def breach_of(guard, programs):
    """Why a guard does not hold for programs by name: the tuple (number, error), or None if it holds."""
    sign = guard[-1]
    program = programs[guard[1]]
    if guard[0] == "alike":
        other = programs[guard[2]]
        if program.size != other.size:
            return None, Unlike(program.size, other.size)
        number = parted(program, other, sign=sign)
        return None if number is None else (number, Parted(number))
    if guard[0] == "relation":
        form = guard[2]
        if len(form) != len(program.registers()) + 2:
            return None, InvalidForm(form)
        number = Relations(program, sign=sign).broken(form)
        return None if number is None else (number, Broken(number))
    number = least_endless(program, sign)
    return None if number is None else (number, Endless(number))


def check_guards(guards, programs):
    """Refuse programs by name for which a guard does not hold."""
    for guard in guards:
        breach = breach_of(guard, programs)
        if breach is not None:
            number, cause = breach
            raise Guarded(guard, number) from cause


class Page:
    """What a book has at a time: programs by name, conditions (its guards), and what can be undone and redone.

    Undos and redos are tuples of tuples (programs, conditions), the ones to be taken next at the end.
    """

    def __init__(self, programs, conditions, undos, redos):
        self.programs = programs
        self.conditions = conditions
        self.undos = undos
        self.redos = redos

    def content(self):
        """The tuple of the programs and the conditions."""
        return self.programs, self.conditions

    def is_like(self, other):
        """Whether the programs and the conditions are those of another page, in the same order."""
        if self.conditions != other.conditions or list(self.programs) != list(other.programs):
            return False
        return self.programs == other.programs


class Book:
    """Programs by name, guards, what was done, and trials in which more is done."""

    def __init__(self):
        self._page = Page({}, (), (), ())
        # The pages at the beginnings of the open trials. The first ones, so many, cannot be closed now.
        self._trials = ()
        self._floor = 0
        self._deeds = ()

    def __getitem__(self, at):
        if at not in self:
            raise UnknownName(at)
        return self._page.programs[at]

    def __setitem__(self, at, worth):
        self.set_program(at, worth)

    def __iter__(self):
        raise TypeError("a book cannot be iterated")

    def __contains__(self, x):
        return isinstance(x, str) and x in self._page.programs

    def __len__(self):
        return len(self._page.programs)

    def names(self):
        """The list of the names, in the order in which they were first set."""
        return list(self._page.programs)

    def guards(self):
        """The list of the guards, in order."""
        return list(self._page.conditions)

    @property
    def depth(self):
        """The number of open trials."""
        return len(self._trials)

    def _did(self, deed):
        self._deeds = (*self._deeds, deed)

    def _change(self, programs, conditions, deed):
        page = self._page
        self._page = Page(programs, conditions, (*page.undos, page.content()), ())
        self._did(deed)

    def set_program(self, name, program):
        """Set the program of a name."""
        if not is_name(name):
            raise InvalidName(name)
        if not isinstance(program, Program):
            raise InvalidProgram(program)
        page = self._page
        programs = {**page.programs, name: program}
        check_guards([guard for guard in page.conditions if name in names_of(guard)], programs)
        self._change(programs, page.conditions, put_lines(name, program))

    def remove(self, name):
        """Remove a name with its program."""
        if name not in self:
            raise UnknownName(name)
        page = self._page
        for condition in page.conditions:
            if name in names_of(condition):
                raise Guarded(condition, None) from None
        programs = {other: program for other, program in page.programs.items() if other != name}
        self._change(programs, page.conditions, f"remove {name}")

    def guard(self, kind, *arguments, sign=None):
        """Add a guard at the end, unless the book has it, and return it."""
        if not (isinstance(kind, str) and kind in ARGUMENTS and len(arguments) == ARGUMENTS[kind]):
            raise InvalidCommand(kind)
        if sign is not None and not is_sign(sign):
            raise InvalidSign(sign)
        condition = (kind, *arguments, sign)
        for name in names_of(condition):
            if name not in self:
                raise UnknownName(name)
        if kind == "relation" and not is_form(arguments[1], len(self[arguments[0]].registers()) + 2):
            raise InvalidForm(arguments[1])
        page = self._page
        if condition not in page.conditions:
            check_guards([condition], page.programs)
            self._change(page.programs, (*page.conditions, condition), f"guard {guard_words(condition)}")
        return condition

    def unguard(self, guard):
        """Take a guard away."""
        page = self._page
        left = tuple([condition for condition in page.conditions if not is_same(condition, guard)])
        if len(left) == len(page.conditions):
            raise UnknownName(guard)
        self._change(page.programs, left, f"unguard {guard_words(guard)}")

    def undo(self):
        """Take back the last change."""
        page = self._page
        if len(page.undos) == 0:
            raise NothingToUndo()
        programs, conditions = page.undos[-1]
        self._page = Page(programs, conditions, page.undos[:-1], (*page.redos, page.content()))
        self._did("undo")

    def redo(self):
        """Do again the change that was taken back last."""
        page = self._page
        if len(page.redos) == 0:
            raise NothingToRedo()
        programs, conditions = page.redos[-1]
        self._page = Page(programs, conditions, (*page.undos, page.content()), page.redos[:-1])
        self._did("redo")

    def begin(self):
        """Open a trial."""
        page = self._page
        self._trials = (*self._trials, page)
        self._page = Page(page.programs, page.conditions, (), ())
        self._did("begin")

    def _closed(self):
        # The page at the beginning of the innermost trial, which is closed now.
        if len(self._trials) == self._floor:
            raise NoTrial()
        page = self._trials[-1]
        self._trials = self._trials[:-1]
        return page

    def keep(self):
        """Close the innermost trial; what was changed in it counts as one change."""
        page = self._page
        elder = self._closed()
        if page.is_like(elder):
            self._page = elder
        else:
            self._page = Page(page.programs, page.conditions, (*elder.undos, elder.content()), ())
        self._did("keep")

    def take_back(self):
        """Close the innermost trial; the book is as it was at its beginning."""
        self._page = self._closed()
        self._did("back")

    def within(self, call):
        """The result of call(), called in a trial that is kept; if it raises an error, nothing has changed."""
        page, trials, floor, deeds = self._page, self._trials, self._floor, self._deeds
        done = None
        try:
            self.begin()
            self._floor = len(self._trials)
            result = call()
            self._floor = floor
            while len(self._trials) > len(trials):
                self.keep()
            done = True
        finally:
            if done is None:
                self._page, self._trials, self._floor, self._deeds = page, trials, floor, deeds
        return result

    def journal(self):
        """The text of all deeds, from which read_journal makes a book that acts in the same way."""
        return closed_text(self._deeds)
