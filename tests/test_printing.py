"""Tests of twodivisions.printing."""

from tests.samples import Case, some_parts, turned, two_modes
from twodivisions.printing import format_program
from twodivisions.programs import Program
from twodivisions.texts import parse_program

TWO_MODES = """base -4
register a 5
register b -7
mode odd near
row * * even 1 0 0 0 0 1 0 1
row + 2 odd 1 2 1 0 0 1 1 -3
row * -1 odd 1 2 1 0 0 1 1 -3
row - * odd 1 0 0 0 0 1 0 1
mode even up
row 0 0 . 1 0 0 0 0 1 0 1
row * * even 1 2 1 0 0 1 1 -3
ends -3 0
result 1 -2 9"""


def by_the_document(parts):
    """The text of the program with these parts."""
    base, registers, modes, ends, result = parts
    lines = [["base", base], *[["register", name, first] for name, first in registers]]
    for name, rule, rows in modes:
        lines.append(["mode", name, rule])
        for sign, remainder, updates, then in rows:
            head = ["row", "*" if sign is None else "0+-"[sign], "*" if remainder is None else remainder, then or "."]
            lines.append(head + [number for update in updates for number in update])
    lines += [["ends", *ends], ["result", *result]]
    return "\n".join(" ".join(str(word) for word in words) for words in lines)


class FormatTest(Case):
    def test_one_mode(self):
        text = "base 10\nregister r 0\nmode m zero\nrow * * m 10 1 0\nends 0\nresult 1 0"
        self.assertEqual(format_program(turned()), text)
        self.assertEqual(format_program(program=turned()), text)

    def test_two_modes(self):
        self.assertEqual(format_program(two_modes()), TWO_MODES)

    def test_no_ends(self):
        lines = format_program(turned().changed(ends=[])).split("\n")
        self.assertEqual(lines[4:], ["ends", "result 1 0"])
        self.assertEqual(format_program(turned().changed(ends=[-9, 0, 9])).split("\n")[4], "ends -9 0 9")

    def test_signs_and_remainders(self):
        step = ((10, -1, 10 ** 6),)
        for sign, written in [(-1, "-"), (0, "0"), (1, "+"), (None, "*")]:
            for remainder in [None, *range(-9, 10)]:
                shown = "*" if remainder is None else str(remainder)
                for then in ["m", None]:
                    program = turned().with_row("m", sign, remainder, step, then)
                    place = 3 if sign is None and remainder is None else 4
                    line = format_program(program).split("\n")[place]
                    self.assertEqual(line, f"row {written} {shown} {then or '.'} 10 -1 1000000")

    def test_rows_in_the_given_order(self):
        for parts in some_parts(60):
            self.assertEqual(format_program(Program(*parts)), by_the_document(parts))

    def test_one_to_three_registers(self):
        for many in [1, 2, 3]:
            registers = [(name, -many) for name in ["a", "bb", "ccc"][:many]]
            updates = tuple(tuple(range(10 * k, 10 * k + many + 2)) for k in range(many))
            modes = [("m", "positive", [(None, None, updates, None)])]
            program = Program(2, registers, modes, [-1, 1], tuple(range(many + 1)))
            lines = format_program(program).split("\n")
            self.assertEqual(lines[1:many + 1], [f"register {name} {first}" for name, first in registers])
            numbers = " ".join(str(number) for update in updates for number in update)
            self.assertEqual(lines[many + 2], f"row * * . {numbers}")

    def test_read_back(self):
        for parts in some_parts(100):
            program = Program(*parts)
            told = parse_program(format_program(program))
            self.assertEqual(told, program)
            self.assertEqual([told.rows_of(mode) for mode in told.modes()],
                             [program.rows_of(mode) for mode in program.modes()])
            self.assertEqual(format_program(told), format_program(program))
