"""What the tests of books use: programs to set, and a book that is kept by the words of the document."""

import copy

from twodivisions import errors
from twodivisions.comparing import parted
from twodivisions.endless import EndlessNumbers
from twodivisions.printing import format_program
from twodivisions.programs import Program
from twodivisions.relations import Relations

from tests.samples import figures_in, play, sums, turned

SIGN_WORDS = {1: "+", -1: "-", None: "*"}


def two_registers():
    """Adds the figures and thrice the figures."""
    rows = [(None, None, ((1, 0, 1, 0), (0, 1, 3, 0)), "m")]
    return Program(10, [("x", 0), ("y", 0)], [("m", "zero", rows)], [0], (1, 0, 0))


def in_other_order():
    """The same program as mixed(), with the rows of its mode in another order."""
    program = mixed()
    rows = program.rows_of("m")[::-1]
    return Program(program.base, program.registers(), [("m", "zero", rows)], program.ends, program.result)


def mixed():
    rows = [(1, 3, ((1, 1, 0),), "m"), (None, None, ((1, 1, 0),), "m"), (-1, None, ((1, 1, 0),), "m")]
    return Program(10, [("s", 0)], [("m", "zero", rows)], [0], (1, 0))


def programs():
    """Programs of which some are alike, for all numbers or for one sign."""
    return [
        sums(), sums().under("down"), sums().under("near"), mixed(), in_other_order(), turned(), two_registers(),
        sums().changed(ends=()), sums().changed(base=-10), Program(3, [("s", 0)], [("m", "zero", [
            (None, None, ((1, 1, 0),), "m")])], [0], (1, 0)), sums().changed(result=(2, 1)),
    ]


def parts_of(program):
    """The parts with which a program can be played."""
    modes = [(mode, program.rule_of(mode), program.rows_of(mode)) for mode in program.modes()]
    return program.base, program.registers(), modes, program.ends, program.result


def result_of(program, number):
    """The result of a run that is played, or None."""
    return play(parts_of(program), number)["result"]


def check_text(text):
    """The number at the end of a journal, by the words of the document."""
    check = 0
    for character in text:
        check = (check * 257 + ord(character)) % 65521
    return check


def closed(lines):
    """The journal of some lines."""
    text = "".join(line + "\n" for line in lines)
    return f"{text}end {check_text(text)}"


def guard_text(guard):
    """The words of a guard."""
    if guard[0] == "relation":
        return " ".join(["relation", guard[1], SIGN_WORDS[guard[3]], *map(str, guard[2])])
    return " ".join([*guard[:-1], SIGN_WORDS[guard[-1]]])


def breach(guard, table):
    """Why a guard does not hold: the tuple (figures of the number, the error's name, its fields), or None."""
    kind, sign = guard[0], guard[-1]
    if kind == "alike":
        one, other = table[guard[1]], table[guard[2]]
        if one.size != other.size:
            return None, "Unlike", [one.size, other.size]
        number = parted(one, other, sign=sign)
        return None if number is None else (figures_in(number, one.size), "Parted", None)
    program = table[guard[1]]
    if kind == "relation":
        if len(guard[2]) != len(program.registers()) + 2:
            return None, "InvalidForm", [guard[2]]
        number = Relations(program, sign=sign).broken(guard[2])
        return None if number is None else (figures_in(number, program.size), "Broken", None)
    endless = EndlessNumbers(program)
    least = [endless.least(own) for own in ((1, -1) if sign is None else (sign,))]
    figures = [figures_in(number, program.size) for number in least if number is not None]
    return (min(figures), "Endless", None) if figures else None


def is_broken_at(guard, table, number):
    """Whether a guard does not hold at a number of its sign, by a run."""
    kind, sign = guard[0], guard[-1]
    if sign is not None and (number >= 0) != (sign == 1):
        return False
    run = play(parts_of(table[guard[1]]), number)
    if kind == "alike":
        return run["result"] != result_of(table[guard[2]], number)
    if kind == "ends":
        return run["how"] == "endless"
    values = [*run["registers"][-1], number, 1]
    return run["how"] != "endless" and sum(a * b for a, b in zip(guard[2], values)) != 0


class ToldBook:
    """A book that copies all it has at each deed."""

    def __init__(self):
        self.now = {"programs": [], "guards": [], "undos": [], "redos": []}
        self.trials = []
        self.floor = 0
        self.lines = []

    def content(self):
        return copy.copy(self.now["programs"]), copy.copy(self.now["guards"])

    def table(self):
        return dict(self.now["programs"])

    def change(self, programs, guards, line):
        table = dict(programs)
        for guard in guards:
            why = breach(guard, table)
            if why is not None:
                return "Guarded", guard, why
        self.now["undos"] = [*self.now["undos"], self.content()]
        self.now = {"programs": programs, "guards": guards, "undos": self.now["undos"], "redos": []}
        self.lines.append(line)
        return None

    def put(self, name, program):
        pairs = [(key, program if key == name else value) for key, value in self.now["programs"]]
        if name not in self.table():
            pairs.append((name, program))
        text = format_program(program)
        many = len(text.split("\n"))
        return self.change(pairs, self.now["guards"], f"put {name} {many}\n{text}")

    def remove(self, name):
        if name not in self.table():
            return "UnknownName", [name]
        for guard in self.now["guards"]:
            if name in guard[1:3 if guard[0] == "alike" else 2]:
                return "Guarded", guard, (None, None, None)
        pairs = [(key, value) for key, value in self.now["programs"] if key != name]
        return self.change(pairs, self.now["guards"], f"remove {name}")

    def guard(self, guard):
        for name in guard[1:3 if guard[0] == "alike" else 2]:
            if name not in self.table():
                return "UnknownName", [name]
        if guard[0] == "relation" and len(guard[2]) != len(self.table()[guard[1]].registers()) + 2:
            return "InvalidForm", [guard[2]]
        if guard in self.now["guards"]:
            return None
        return self.change(self.now["programs"], [*self.now["guards"], guard], f"guard {guard_text(guard)}")

    def unguard(self, guard):
        if guard not in self.now["guards"]:
            return "UnknownName", [guard]
        left = [other for other in self.now["guards"] if other != guard]
        return self.change(self.now["programs"], left, f"unguard {guard_text(guard)}")

    def undo(self):
        if not self.now["undos"]:
            return "NothingToUndo", []
        *undos, (programs, guards) = self.now["undos"]
        redos = [*self.now["redos"], self.content()]
        self.now = {"programs": programs, "guards": guards, "undos": undos, "redos": redos}
        self.lines.append("undo")
        return None

    def redo(self):
        if not self.now["redos"]:
            return "NothingToRedo", []
        *redos, (programs, guards) = self.now["redos"]
        undos = [*self.now["undos"], self.content()]
        self.now = {"programs": programs, "guards": guards, "undos": undos, "redos": redos}
        self.lines.append("redo")
        return None

    def begin(self):
        self.trials.append(copy.copy(self.now))
        self.now = {**self.now, "undos": [], "redos": []}
        self.lines.append("begin")
        return None

    def take_back(self):
        if len(self.trials) <= self.floor:
            return "NoTrial", []
        self.now = self.trials.pop()
        self.lines.append("back")
        return None

    def keep(self):
        if len(self.trials) <= self.floor:
            return "NoTrial", []
        elder, programs, guards = self.trials.pop(), *self.content()
        if programs == elder["programs"] and guards == elder["guards"]:
            self.now = elder
        else:
            ahead = elder["programs"], elder["guards"]
            self.now = {"programs": programs, "guards": guards, "undos": [*elder["undos"], ahead], "redos": []}
        self.lines.append("keep")
        return None

    def copied(self):
        """What is there, for a call that raises an error."""
        return copy.copy(self.now), list(self.trials), self.floor, list(self.lines)

    def restored(self, held):
        self.now, self.trials, self.floor, self.lines = held


def error_of(call, *values, **named):
    """The error of the package that a call raises, or None."""
    try:
        call(*values, **named)
    except (ValueError, LookupError, RuntimeError, ArithmeticError) as error:
        assert type(error).__module__ == errors.__name__, error
        return error
    return None
