"""The console: a book that is worked on by lines of words."""

from twodivisions.checks import is_decimal
from twodivisions.comparing import parted
from twodivisions.errors import (
    Guarded, InvalidCommand, InvalidName, InvalidNumber, InvalidRule, InvalidSign, NothingToRedo, NothingToUndo,
    UnknownName, Unlike,
)
from twodivisions.least import LeastMachine
from twodivisions.programs import result_at
from twodivisions.relations import Relations

MOST_DIGITS = 60
SIGNS = {"+": 1, "-": -1}


def tell_names(book):
    """The names."""
    return " ".join(book.names())


def table_line(book, name):
    """The line of a name in the table."""
    program = book[name]
    return f"{name:<8}{program.base:>4}{len(program.modes()):>3}{len(program.registers()):>3}"


def tell_table(book):
    """A line for each name."""
    return "\n".join([table_line(book, name) for name in book.names()])


def tell_run(book, name, number):
    """The result of a program."""
    if not is_decimal(number, MOST_DIGITS):
        raise InvalidNumber(number)
    result = result_at(book[name], int(number))
    return "endless" if result is None else f"result {result}"


def tell_alike(book, one, other):
    """Whether two programs are alike, or a number that parts them."""
    number = parted(book[one], book[other])
    return "alike" if number is None else f"part at {number}"


def tell_relations(book, name):
    """How many relations there are of which all are sums."""
    return f"relations {len(Relations(book[name]))}"


def tell_least(book, name, sign):
    """How many entries a least machine has."""
    if sign not in SIGNS:
        raise InvalidSign(sign)
    return f"least {LeastMachine(book[name], SIGNS[sign]).entries}"


def do_copy(book, old, new):
    """Set a name to the program of another one."""
    book[new] = book[old]
    return f"put {new}"


def do_rule(book, name, mode, rule):
    """Give a mode of a program another rule."""
    book[name] = book[name].with_rule(mode, rule)
    return f"put {name}"


def do_guard(book, one, other):
    """Guard that two programs are alike."""
    book.guard("alike", one, other)
    return "guarded"


def do_undo(book):
    """Take back the last change."""
    book.undo()
    return "undone"


def do_redo(book):
    """Do again what was taken back."""
    book.redo()
    return "redone"


# How many words stand behind the first one.
WORDS = {
    "names": 0, "table": 0, "run": 2, "alike": 2, "relations": 1, "least": 2,
    "copy": 2, "rule": 3, "guard": 2, "undo": 0, "redo": 0,
}
ACTIONS = {
    "names": tell_names, "table": tell_table, "run": tell_run, "alike": tell_alike, "relations": tell_relations,
    "least": tell_least, "copy": do_copy, "rule": do_rule, "guard": do_guard, "undo": do_undo, "redo": do_redo,
}


class Console:
    """Lines of words that ask a book, or change it."""

    def __init__(self, book):
        self._book = book

    def __call__(self, line):
        return self._carry_out(line)

    def _carry_out(self, line):
        first, *rest = line.split(" ")
        if first not in WORDS or len(rest) != WORDS[first]:
            raise InvalidCommand(first)
        action = ACTIONS[first]
        return action(self._book, *rest)

    def _answer(self, line):
        try:
            return self._carry_out(line)
        except (InvalidCommand, InvalidNumber, InvalidSign, InvalidName, InvalidRule, UnknownName, Unlike):
            return "refused"
        except (Guarded, NothingToUndo, NothingToRedo):
            return "refused"

    def answers(self, lines):
        """Yield the answer of each line of a list, and `refused` for each one that raises an error."""
        for line in list(lines):
            yield self._answer(line)
