"""Drafts: programs that are being changed."""

from twodivisions.comparing import parted
from twodivisions.errors import InvalidProgram, InvalidRow, NothingToUndo
from twodivisions.programs import Program


class DraftBlock:
    """A context manager: behind a block that is left by an error a draft is as it was ahead of it."""

    def __init__(self, draft):
        self._draft = draft
        self._elder = None

    def __enter__(self):
        self._elder = self._draft._told
        return self._draft

    def __exit__(self, kind, value, trace):
        draft = self._draft
        if kind is not None:
            draft._told = self._elder


class Draft:
    """A program that is being changed."""

    def __init__(self, program):
        if not isinstance(program, Program):
            raise InvalidProgram(program)
        # The programs from the one at the beginning to the current one, less those that were taken back.
        self._told = (program,)

    def current(self):
        """The program as it stands."""
        return self._told[-1]

    def _change(self, program):
        self._told = (*self._told, program)

    def __getitem__(self, at):
        mode, sign, remainder = at
        return self.current()[mode, sign, remainder]

    def __setitem__(self, at, worth):
        mode, sign, remainder = at
        if not (isinstance(worth, tuple) and len(worth) == 2):
            raise InvalidRow(mode, None)
        updates, then = worth
        self.set_row(mode, sign, remainder, updates, then)

    def __iter__(self):
        raise TypeError("a draft cannot be iterated")

    def set_row(self, mode, sign, remainder, updates, then):
        """Put a row in place of the one for the sign and the remainder, or behind the others."""
        self._change(self.current().with_row(mode, sign, remainder, updates, then))

    def site(self, mode):
        """The site of a mode."""
        return Site(self, mode)

    def set_rule(self, mode, rule):
        """Give a mode another rule."""
        self._change(self.current().with_rule(mode, rule))

    @property
    def end_numbers(self):
        """The tuple of the ends."""
        return self.current().ends

    @end_numbers.setter
    def end_numbers(self, value):
        self.set_ends(value)

    def set_ends(self, ends):
        """Put other ends in place, or those that are there if they are None."""
        self._change(self.current().changed(ends=ends))

    def change_base(self, base):
        """Put another base in place, or the one that is there if it is None."""
        self._change(self.current().changed(base=base))

    def change_result(self, result):
        """Put another result in place, or the one that is there if it is None."""
        self._change(self.current().changed(result=result))

    def undo(self):
        """Take back the last change that was not taken back yet."""
        if len(self._told) == 1:
            raise NothingToUndo()
        self._told = self._told[:-1]

    @property
    def many(self):
        """The number of changes that can be taken back."""
        return len(self._told) - 1

    def trial(self):
        """A context manager: all changes stay, unless its block is left by an error."""
        return DraftBlock(self)

    def within(self, call):
        """The result of call(), called in such a block."""
        with self.trial():
            return call()

    def parting(self):
        """A number with the fewest figures that parts the programs at the beginning and now, or None."""
        return parted(self._told[0], self.current())


class Site:
    """A mode of a draft."""

    def __init__(self, draft, mode):
        # Only a mode has a rule.
        draft.current().rule_of(mode)
        self._draft = draft
        self._name = mode

    @property
    def rule(self):
        """The rule of the mode, as it stands."""
        return self._draft.current().rule_of(self._name)

    @rule.setter
    def rule(self, value):
        self.set_to(value)

    def set_to(self, rule):
        """Give the mode another rule."""
        self._draft.set_rule(self._name, rule)
