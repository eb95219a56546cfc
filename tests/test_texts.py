"""Tests of twodivisions.texts."""

import re

from tests.samples import STRANGE, Case, some_parts, turned, two_modes
from twodivisions import errors
from twodivisions.printing import format_program
from twodivisions.programs import Program
from twodivisions.texts import parse_program

TWO_MODES = format_program(two_modes()).split("\n")
TURNED = ["base 10", "register r 0", "mode m zero", "row * * m 10 1 0", "ends 0", "result 1 0"]

NUMBER = "(0|-?[1-9][0-9]{0,29})"
WORD = "[^ \n]+"
LINES = {
    "base": f"base {NUMBER}",
    "register": f"register {WORD} {NUMBER}",
    "mode": f"mode {WORD} {WORD}",
    "ends": f"ends( {NUMBER})*",
    "result": f"result( {NUMBER})+",
}
BEHIND = {
    None: ["base"], "base": ["register"], "register": ["register", "mode"], "mode": ["row"],
    "row": ["row", "mode", "ends"], "ends": ["result"], "result": [],
}


def first_wrong(text):
    """The index of the first line that cannot stand there by its words, or None."""
    last, many = None, 0
    lines = text.split("\n")
    for at, line in enumerate(lines):
        kinds = []
        for kind in BEHIND[last]:
            pattern = LINES.get(kind, f"row [-0+*] ([*]|{NUMBER}) {WORD}( {NUMBER}){{{many * (many + 2)}}}")
            if re.fullmatch(pattern, line, re.ASCII):
                kinds.append(kind)
        if not kinds:
            return at
        last = kinds[0]
        many += last == "register"
    return None if last == "result" else len(lines)


def joined(lines):
    return "\n".join(lines)


class ReadTest(Case):
    def test_read(self):
        self.assertEqual(parse_program(joined(TURNED)), turned())
        self.assertEqual(parse_program(text=joined(TURNED)), turned())
        told = parse_program(format_program(two_modes()))
        self.assertIs(type(told), Program)
        self.assertEqual(told, two_modes())

    def test_all_signs_and_remainders(self):
        for written, sign in [("-", -1), ("0", 0), ("+", 1), ("*", None)]:
            for shown, remainder in [("*", None), ("0", 0), ("-9", -9), ("9", 9), ("-1", -1)]:
                for target, then in [("m", "m"), (".", None)]:
                    line = f"row {written} {shown} {target} -1000000 0 1000000"
                    rows = [TURNED[3], line] if (sign, remainder) != (None, None) else [line]
                    told = parse_program(joined([*TURNED[:3], *rows, *TURNED[4:]]))
                    row = (sign, remainder, ((-10 ** 6, 0, 10 ** 6),), then)
                    self.assertEqual(told.rows_of("m")[-1], row)

    def test_ends(self):
        for line, ends in [("ends", ()), ("ends 0", (0,)), ("ends -9 -1 3 9", (-9, -1, 3, 9))]:
            self.assertEqual(parse_program(joined([*TURNED[:4], line, TURNED[5]])).ends, ends)

    def test_numbers_of_a_row(self):
        lines = ["base -2", "register a 1", "register b -2", "register c 3", "mode m up",
                 "row * * . 1 2 3 4 5 6 7 8 9 10 11 12 13 14 15", "ends", "result 1 2 3 -4"]
        told = parse_program(joined(lines))
        self.assertEqual(told.rows_of("m"),
                         [(None, None, ((1, 2, 3, 4, 5), (6, 7, 8, 9, 10), (11, 12, 13, 14, 15)), None)])
        self.assertEqual([told.base, told.registers(), told.result], [-2, [("a", 1), ("b", -2), ("c", 3)], (1, 2, 3, -4)])


class RefusedTextTest(Case):
    def wrong(self, at, lines):
        self.assertEqual(first_wrong(joined(lines)), at)
        self.refused("InvalidText", [at], parse_program, joined(lines))

    def agrees(self, lines):
        """Check that a text is refused as the patterns tell, or else read or refused by Program."""
        at = first_wrong(joined(lines))
        if at is not None:
            self.refused("InvalidText", [at], parse_program, joined(lines))
            return
        try:
            parse_program(joined(lines))
        except errors.InvalidText:
            self.fail(lines)
        except ValueError:
            pass

    def put(self, at, line, lines=TURNED):
        return [*lines[:at], line, *lines[at + 1:]]

    def test_no_text(self):
        for value in STRANGE + [0, TURNED, joined(TURNED).encode()]:
            if not isinstance(value, str):
                self.refused("InvalidText", [None], parse_program, value)

    def test_empty_text(self):
        self.wrong(0, [""])
        self.wrong(0, ["", ""])
        self.wrong(0, [" "])

    def test_ends_too_early(self):
        for at in range(1, len(TURNED)):
            self.wrong(at, TURNED[:at])
            self.wrong(at, [*TURNED[:at], ""])
        for at in range(1, len(TWO_MODES)):
            self.wrong(at, TWO_MODES[:at])

    def test_lines_that_are_too_many(self):
        self.wrong(6, [*TURNED, ""])
        self.wrong(6, [*TURNED, "result 1 0"])
        self.wrong(6, [*TURNED, "base 10", "x"])
        self.wrong(0, ["", *TURNED])

    def test_a_line_left_out(self):
        for at, wrong in enumerate([0, 1, 2, 3, 4, 5]):
            self.wrong(wrong, TURNED[:at] + TURNED[at + 1:])

    def test_a_line_twice(self):
        for at, wrong in [(0, 1), (2, 3), (4, 5), (5, 6)]:
            self.wrong(wrong, TURNED[:at + 1] + TURNED[at:])

    def test_lines_exchanged(self):
        for at, wrong in enumerate([0, 1, 2, 3, 4]):
            self.wrong(wrong, [*TURNED[:at], TURNED[at + 1], TURNED[at], *TURNED[at + 2:]])

    def test_lines_of_other_programs(self):
        for parts in some_parts(12):
            lines = format_program(Program(*parts)).split("\n")
            self.assertIsNone(first_wrong(joined(lines)))
            for at in range(len(lines)):
                self.agrees(lines[:at] + lines[at + 1:])
                self.agrees(lines[:at + 1] + lines[at:])
                self.agrees([*lines[:at], *lines[at:at + 2][::-1], *lines[at + 2:]])
                self.agrees([*lines[:at], "", *lines[at:]])

    def test_words_left_out_and_put_in(self):
        for lines in [TURNED, TWO_MODES]:
            for at, line in enumerate(lines):
                words = line.split(" ")
                for place in range(len(words)):
                    self.agrees(self.put(at, " ".join(words[:place] + words[place + 1:]), lines))
                for place in range(len(words) + 1):
                    for word in ["", "0", "1", "m", "*", ".", "-", "+", "row", "x"]:
                        self.agrees(self.put(at, " ".join([*words[:place], word, *words[place:]]), lines))
        self.wrong(0, self.put(0, "base"))
        self.wrong(0, self.put(0, "base 10 10"))
        self.wrong(1, self.put(1, "register r"))
        self.wrong(1, self.put(1, "register 0"))
        self.wrong(1, self.put(1, "register r 0 0"))
        self.wrong(2, self.put(2, "mode m"))
        self.wrong(2, self.put(2, "mode m zero zero"))
        self.wrong(3, self.put(3, "row * * m 10 1"))
        self.wrong(3, self.put(3, "row * * m 10 1 0 0"))
        self.wrong(3, self.put(3, "row * m 10 1 0"))
        self.wrong(3, self.put(3, "row * * 10 1 0"))
        self.wrong(3, self.put(3, "row"))
        self.wrong(5, self.put(5, "result"))

    def test_words_put_otherwise(self):
        others = ["", "0", "-1", "x", "*", ".", "-", "+", "-0", "+1", "01", "1.0", "row", "Row", "base", "\t"]
        for lines in [TURNED, TWO_MODES]:
            for at, line in enumerate(lines):
                words = line.split(" ")
                for place in range(len(words)):
                    for word in others:
                        self.agrees(self.put(at, " ".join([*words[:place], word, *words[place + 1:]]), lines))
        for at, line in enumerate(TURNED):
            self.wrong(at, self.put(at, line.upper()))
            self.wrong(at, self.put(at, "x" + line))
            self.wrong(at, self.put(at, line.replace(" ", "\t", 1)))
        for sign in ["1", "-1", "**", "x", "none", "0-", "00"]:
            self.wrong(3, self.put(3, f"row {sign} * m 10 1 0"))
        for remainder in ["x", "**", "-", "+", ".", "+1", "-0", "01", "1" * 31]:
            self.wrong(3, self.put(3, f"row * {remainder} m 10 1 0"))

    def test_spaces(self):
        for at, line in enumerate(TURNED):
            self.wrong(at, self.put(at, line + " "))
            self.wrong(at, self.put(at, " " + line))
            for place, sign in enumerate(line):
                if sign == " ":
                    self.wrong(at, self.put(at, line[:place] + " " + line[place:]))
        self.wrong(4, self.put(4, "ends "))
        self.wrong(4, self.put(4, "ends  0"))
        self.wrong(4, self.put(4, "ends\r"))

    def test_second_lines_of_a_kind(self):
        for line in ["register b", "register b -7 0", "register -7", "register b b", "register b -07", "registers b -7"]:
            self.wrong(2, self.put(2, line, TWO_MODES))
        for line in ["mode even", "mode even up up", "mode", "modes even up"]:
            self.wrong(8, self.put(8, line, TWO_MODES))
        for line in ["row + 2 odd 1 2 1 0 0 1 1", "row + 2 odd 1 2 1 0 0 1 1 -3 0", "row + 2 1 2 1 0 0 1 1 -3", "rows"]:
            self.wrong(5, self.put(5, line, TWO_MODES))
        self.wrong(9, TWO_MODES[:9] + TWO_MODES[11:])
        self.wrong(9, TWO_MODES[:9] + TWO_MODES[8:])

    def test_numbers(self):
        wrong = ["00", "-0", "+0", "+1", "01", "-01", "--1", "1-", "1_0", "0x1", "1.0", "1e1", "a", "-", "\u0661", "\u00b2",
                 "1\r", "\t1", "1" * 31, "-" + "1" * 31]
        for number in wrong:
            self.wrong(0, self.put(0, f"base {number}"))
            self.wrong(1, self.put(1, f"register r {number}"))
            self.wrong(4, self.put(4, f"ends {number}"))
            self.wrong(4, self.put(4, f"ends 0 {number}"))
            self.wrong(5, self.put(5, f"result 1 {number}"))
            self.wrong(5, self.put(5, f"result {number} 0"))
            for place in range(3):
                numbers = ["10", "1", "0"]
                numbers[place] = number
                self.wrong(3, self.put(3, "row * * m " + " ".join(numbers)))

    def test_the_first_line_ahead_of_all_errors_of_program(self):
        bad = ["base 99", "register R 9999999", "mode M sideways", "row * 77 nowhere 10 1 9999999", "ends 7 7"]
        self.wrong(5, bad)
        self.wrong(5, [*bad, "result"])
        self.wrong(6, [*bad, "result 1", ""])
        self.wrong(5, self.put(0, "base 99")[:5] + ["result x"])
        self.wrong(4, ["base 99", "register R 1", "register R 1", "mode M x", "row * * M 1 1 1", "ends", "result 1"])


class RefusedByProgramTest(Case):
    """Texts whose lines can stand there, but of which no program comes."""

    def wrong(self, name, fields, lines):
        self.assertIsNone(first_wrong(joined(lines)))
        self.refused(name, fields, parse_program, joined(lines))

    def put(self, at, *lines):
        return [*TURNED[:at], *lines, *TURNED[at + 1:]]

    def test_bases(self):
        for base in [0, 1, -1, 11, -11, 10 ** 29, -10 ** 29, 10 ** 30 - 1]:
            self.wrong("InvalidBase", [base], self.put(0, f"base {base}"))

    def test_registers(self):
        for name in ["R", "abcdefghi", "r1", ".", "*", "0", "\u00e9", "r\t", "r\r"]:
            self.wrong("InvalidRegisters", [0], self.put(1, f"register {name} 0"))
        self.wrong("InvalidRegisters", [0], self.put(1, f"register r {10 ** 6 + 1}"))
        self.wrong("InvalidRegisters", [0], self.put(1, f"register r -{10 ** 30 - 1}"))
        many = ["register a 0", "register b 0", "register c 0", "register d 0", "register a 0"]
        for count, told in [(4, None), (5, None)]:
            row = "row * * m" + " 1" * (count * (count + 2))
            lines = [TURNED[0], *many[:count], TURNED[2], row, *TURNED[4:]]
            self.wrong("InvalidRegisters", [told], lines)
        row = "row * * m" + " 1" * 8
        self.wrong("InvalidRegisters", [1], [TURNED[0], "register a 0", "register a 0", TURNED[2], row, *TURNED[4:]])

    def test_modes(self):
        for line in ["mode M zero", "mode m Zero", "mode m none", "mode . zero", "mode abcdefghi up", "mode m m"]:
            self.wrong("InvalidModes", [0], self.put(2, line))
        five = [line for name in "abcde" for line in [f"mode {name} up", "row * * a 1 1 1"]]
        self.wrong("InvalidModes", [None], [*TURNED[:2], *five, *TURNED[4:]])
        self.wrong("InvalidModes", [1], [*TURNED[:4], *TURNED[2:]])

    def test_rows(self):
        for line in ["row * * n 10 1 0", "row * * M 10 1 0", f"row * * m {10 ** 6 + 1} 1 0", "row * * 0 10 1 0"]:
            self.wrong("InvalidRow", ["m", 0], self.put(3, line))
        for line in ["row + 10 m 10 1 0", "row * -10 m 10 1 0", "row * * m 10 1 0", f"row 0 {10 ** 29} . 10 1 0"]:
            self.wrong("InvalidRow", ["m", 1], self.put(3, TURNED[3], line))
        self.wrong("InvalidRow", ["m", 2], self.put(3, "row + * m 10 1 0", "row * 3 m 10 1 0"))

    def test_ends(self):
        for line in ["ends 0 0", "ends 1 0", "ends 10", "ends -10 0", f"ends {10 ** 29}"]:
            error = None
            try:
                parse_program(joined(self.put(4, line)))
            except errors.InvalidEnds as found:
                error = found
            self.assertIsNotNone(error)
            self.assertEqual([str(end) for end in error.value], line.split(" ")[1:])

    def test_results(self):
        for numbers in [(1,), (1, 0, 0), (1,) * 40, (10 ** 6 + 1, 0), (-10 ** 29, 0)]:
            line = "result " + " ".join(str(number) for number in numbers)
            self.wrong("InvalidResult", [numbers], self.put(5, line))

    def test_which_comes_first(self):
        lines = ["base 10", "register r 0", "mode m zero", "row + * n 10 1 0", "ends 1 0", "result 1"]
        self.wrong("InvalidBase", [12], ["base 12", *lines[1:]])
        self.wrong("InvalidRegisters", [0], [lines[0], "register R 0", "mode m x", *lines[3:]])
        self.wrong("InvalidModes", [0], [*lines[:2], "mode m x", *lines[3:]])
        self.wrong("InvalidRow", ["m", 0], lines)
        self.wrong("InvalidRow", ["m", 1], [*lines[:3], "row + * m 10 1 0", *lines[4:]])
