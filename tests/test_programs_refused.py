"""Tests of twodivisions.programs: what is refused, and which error comes first."""

from tests.samples import STEP, STRANGE, UNLISTED, Case
from twodivisions.programs import Program

KEEP = ((1, 0, 0, 0), (0, 1, 0, 1))
ROW = (None, None, STEP, "m")
MODE = ("m", "zero", [ROW])
MILLION = 10 ** 6


def make(base=10, registers=(("r", 0),), modes=(MODE,), ends=(0,), result=(1, 0)):
    return Program(base, registers, modes, ends, result)


def with_rows(*rows, **named):
    return make(modes=[("m", "zero", list(rows))], **named)


class BaseTest(Case):
    def test_wrong_bases(self):
        for value in STRANGE + [0, 1, -1, 11, -11, 10 ** 20, (10,), [10]]:
            self.refused("InvalidBase", [value], make, value)
            self.refused("InvalidBase", [value], make, value, None, None, None, None)

    def test_right_bases(self):
        for base in [*range(-10, -1), *range(2, 11)]:
            self.assertEqual(make(base).base, base)


class RegistersTest(Case):
    def test_no_list_of_1_to_3(self):
        four = [("a", 0), ("b", 0), ("c", 0), ("d", 0)]
        for value in UNLISTED + [0, [], (), four, tuple(four), [None] * 4, {"r": 0}]:
            self.refused("InvalidRegisters", [None], make, registers=value)

    def test_wrong_elements(self):
        for value in STRANGE + [0, "r", ("r",), ("r", 0, 0), ["r", 0], (0, "r"), ("r", "0")]:
            self.refused("InvalidRegisters", [0], make, registers=[value])
            self.refused("InvalidRegisters", [1], make, registers=(("a", 0), value, value))
            self.refused("InvalidRegisters", [2], make, registers=[("a", 0), ("b", 0), value])

    def test_wrong_names(self):
        wrong = [0, "A", "aB", "a1", "a ", " a", "a_b", "a.b", "abcdefghi", "\u00e9", "\u03b1", "a\n", "\u0430", "\u00df",
                 ("a",), ["a"]]
        for value in [value for value in STRANGE if value != "downs"] + wrong:
            self.refused("InvalidRegisters", [0], make, registers=[(value, 0)])
            self.refused("InvalidRegisters", [1], make, registers=[("a", 0), (value, 0)])

    def test_right_names(self):
        names = ["a", "z", "abcdefgh", "ijklmnop", "qrstuvwx", "yz", "down", "none"]
        for name in names:
            self.assertEqual(make(registers=[(name, 3)]).registers(), [(name, 3)])

    def test_the_same_name_again(self):
        self.refused("InvalidRegisters", [1], make, registers=[("a", 0), ("a", 1)])
        self.refused("InvalidRegisters", [2], make, registers=[("a", 0), ("b", 0), ("a", 0)])
        self.refused("InvalidRegisters", [1], make, registers=[("b", 0), ("b", 0), ("b", 0)])

    def test_first_values(self):
        for value in STRANGE + [MILLION + 1, -MILLION - 1, 10 ** 40]:
            self.refused("InvalidRegisters", [0], make, registers=[("r", value)])
        for value in [MILLION, -MILLION, 0]:
            self.assertEqual(make(registers=[("r", value)]).registers(), [("r", value)])

    def test_the_first_wrong_one(self):
        self.refused("InvalidRegisters", [0], make, registers=[("A", 0), ("b", None)])
        self.refused("InvalidRegisters", [1], make, registers=[("a", 0), ("a", 0), ("B", 0)])


class ModesTest(Case):
    def test_no_list_of_1_to_4(self):
        five = [(name, "up", [(None, None, STEP, None)]) for name in "abcde"]
        for value in UNLISTED + [0, [], (), five, tuple(five), [None] * 5]:
            self.refused("InvalidModes", [None], make, modes=value)
        self.assertEqual(make(modes=five[:4]).modes(), ["a", "b", "c", "d"])

    def test_wrong_elements(self):
        for value in STRANGE + [0, "m", ("n",), ("n", "up"), ("n", "up", [ROW], 0), ["n", "up", [ROW]]]:
            self.refused("InvalidModes", [0], make, modes=[value])
            self.refused("InvalidModes", [1], make, modes=(MODE, value, value))

    def test_wrong_names(self):
        for value in [value for value in STRANGE if value != "downs"] + [0, "A", "a1", "abcdefghi", "\u00e9", "a\n", "."]:
            self.refused("InvalidModes", [0], make, modes=[(value, "up", [ROW])])
            self.refused("InvalidModes", [1], make, modes=[MODE, (value, "up", [ROW])])
        self.refused("InvalidModes", [1], make, modes=[MODE, MODE])
        self.refused("InvalidModes", [2], make, modes=[MODE, ("n", "up", [ROW]), ("m", "up", [ROW])])

    def test_wrong_rules(self):
        for value in STRANGE + [0, "m"]:
            self.refused("InvalidModes", [0], make, modes=[("m", value, [ROW])])
            self.refused("InvalidModes", [1], make, modes=[MODE, ("n", value, [ROW])])

    def test_rows_that_are_no_list(self):
        for value in UNLISTED + [0, {ROW: 1}]:
            self.refused("InvalidModes", [0], make, modes=[("m", "up", value)])
            self.refused("InvalidModes", [1], make, modes=[("m", "up", [None]), ("n", "up", value)])

    def test_modes_ahead_of_their_rows(self):
        self.refused("InvalidModes", [1], make, modes=[("m", "up", []), ("n", "other", [])])
        self.refused("InvalidModes", [3], make, modes=[("m", "up", []), ("n", "up", []), ("o", "up", []), ("m", "up", [])])


class RowsTest(Case):
    def test_wrong_elements(self):
        for value in STRANGE + [0, "row", ROW[:3], ROW + (0,), list(ROW)]:
            self.refused("InvalidRow", ["m", 0], with_rows, value)
            self.refused("InvalidRow", ["m", 0], with_rows, value, ROW)
            self.refused("InvalidRow", ["m", 1], with_rows, ROW, value)

    def test_signs(self):
        for value in [value for value in STRANGE if value is not None] + [2, -2, "+", "*"]:
            self.refused("InvalidRow", ["m", 1], with_rows, ROW, (value, 3, STEP, None))
        for value in [-1, 0, 1, None]:
            self.assertEqual(with_rows(ROW, (value, 3, STEP, None)).rows_of("m")[1][0], value)

    def test_remainders(self):
        for value in [value for value in STRANGE if value is not None] + [10, -10, 10 ** 20, "*"]:
            self.refused("InvalidRow", ["m", 1], with_rows, ROW, (1, value, STEP, None))
        for base in [*range(-10, -1), *range(2, 11)]:
            size = abs(base)
            for value in [1 - size, 0, size - 1]:
                self.assertEqual(with_rows((1, value, STEP, None), ROW, base=base).rows_of("m")[0][1], value)
            for value in [-size, size]:
                self.refused("InvalidRow", ["m", 0], with_rows, (1, value, STEP, None), ROW, base=base)

    def test_updates(self):
        wrong = [(STEP[0], STEP[0]), list(STEP), ([1, 0, 0],), ((1, 0),), ((1, 0, 0, 0),), (1, 0, 0), ((),), 0]
        for value in STRANGE + wrong:
            self.refused("InvalidRow", ["m", 0], with_rows, (1, 2, value, None), ROW)
        for value in STRANGE + [MILLION + 1, -MILLION - 1]:
            for update in [(value, 0, 0), (0, value, 0), (0, 0, value)]:
                self.refused("InvalidRow", ["m", 1], with_rows, ROW, (1, 2, (update,), None))
        for value in [MILLION, -MILLION]:
            updates = ((value, value, value),)
            self.assertEqual(with_rows((None, None, updates, None)).rows_of("m"), [(None, None, updates, None)])

    def test_updates_of_more_registers(self):
        two = [("a", 0), ("b", 0)]
        row = (None, None, KEEP, None)
        self.assertEqual(with_rows(row, registers=two, result=(1, 0, 0)).rows_of("m"), [row])
        for value in [STEP, KEEP[:1], (*KEEP, KEEP[0]), (KEEP[0], KEEP[1][:3]), (KEEP[0], (*KEEP[1], 0))]:
            self.refused("InvalidRow", ["m", 1], with_rows, row, (0, 0, value, None), registers=two, result=(1, 0, 0))
        three = [("a", 0), ("b", 0), ("c", 0)]
        long = ((1, 2, 3, 4, 5), (6, 7, 8, 9, 10), (11, 12, 13, 14, 15))
        row = (None, None, long, None)
        self.assertEqual(with_rows(row, registers=three, result=(1, 0, 0, 2)).rows_of("m"), [row])

    def test_then(self):
        for value in [value for value in STRANGE if value is not None] + ["x", "r", ".", 0, ("m",)]:
            self.refused("InvalidRow", ["m", 1], with_rows, ROW, (1, 2, STEP, value))
        modes = [("m", "up", [(None, None, STEP, "n")]), ("n", "up", [(None, None, STEP, "m"), (0, 0, STEP, None)])]
        self.assertEqual(make(modes=modes)["m", 0, 0], (STEP, "n"))

    def test_the_same_sign_and_remainder_again(self):
        for key in [(1, 3), (None, 3), (1, None), (None, None), (0, 0), (-1, -9)]:
            rows = [ROW] if key != (None, None) else []
            again = [*rows, (*key, STEP, None), (0, 1, STEP, None), (*key, ((0, 0, 0),), "m")]
            self.refused("InvalidRow", ["m", len(again) - 1], with_rows, *again)
        for one, other in [((1, 3), (1, -3)), ((1, 3), (-1, 3)), ((None, 3), (0, 3)), ((1, None), (1, 0))]:
            self.assertEqual(len(with_rows(ROW, (*one, STEP, None), (*other, STEP, None)).rows_of("m")), 3)

    def test_a_row_for_all_is_missing(self):
        self.refused("InvalidRow", ["m", 0], with_rows)
        self.refused("InvalidRow", ["m", 0], make, modes=[("m", "up", ())])
        rows = [(sign, None, STEP, None) for sign in [-1, 0, 1]] + [(None, k, STEP, None) for k in range(-9, 10)]
        self.refused("InvalidRow", ["m", len(rows)], with_rows, *rows)
        self.refused("InvalidRow", ["m", 3], with_rows, *rows[:3])
        self.refused("InvalidRow", ["m", 1], with_rows, rows[0], None)

    def test_mode_by_mode(self):
        one, other = [ROW, (0, 0, STEP, "x")], [ROW, ROW]
        self.refused("InvalidRow", ["m", 1], make, modes=[("m", "up", one), ("n", "up", [])])
        self.refused("InvalidRow", ["m", 1], make, modes=[("m", "up", other), ("n", "up", [None])])
        self.refused("InvalidRow", ["n", 1], make, modes=[("m", "up", [ROW]), ("n", "up", one)])
        self.refused("InvalidRow", ["m", 0], make, modes=[("m", "up", []), ("n", "up", one)])
        self.refused("InvalidRow", ["n", 0], make, modes=[MODE, ("n", "up", ()), ("o", "up", [None])])


class EndsTest(Case):
    def test_wrong_ends(self):
        wrong = [0, [0, 0], [1, 0], (3, 2), [-1, -2], [0, 2, 1], [10], [-10], (0, 10), [None], ["0"], [True], [0, True],
                 [False], [False, 1], [[0]], "0", {0: 1}, [1, 1, 2], [-3, 3, 3]]
        for value in UNLISTED + wrong:
            self.refused("InvalidEnds", [value], make, ends=value)

    def test_right_ends(self):
        for value in [[], (), [0], (0,), [-9, 9], (-1, 0, 1), list(range(-9, 10))]:
            self.assertEqual(make(ends=value).ends, tuple(value))

    def test_size_of_the_base(self):
        for base in [*range(-10, -1), *range(2, 11)]:
            size = abs(base)
            self.assertEqual(make(base, ends=[1 - size, size - 1]).ends, (1 - size, size - 1))
            for value in [[-size], [size], [0, size], [-size, 0]]:
                self.refused("InvalidEnds", [value], make, base, ends=value)


class ResultTest(Case):
    def test_wrong_results(self):
        for value in STRANGE + [0, (), (1,), (1, 0, 0), [1, 0], (1, True), (False, 0), ("1", 0), (None, 0),
                                (MILLION + 1, 0), (0, -MILLION - 1), ((1,), 0)]:
            self.refused("InvalidResult", [value], make, result=value)

    def test_as_many_as_registers(self):
        three = [("a", 0), ("b", 0), ("c", 0)]
        for many in [1, 2, 3]:
            row = (None, None, ((0,) * (many + 2),) * many, None)
            for wide in range(6):
                named = {"registers": three[:many], "modes": [("m", "up", [row])], "result": (MILLION,) * wide}
                if wide == many + 1:
                    self.assertEqual(make(**named).result, (MILLION,) * wide)
                else:
                    self.refused("InvalidResult", [(MILLION,) * wide], make, **named)


class OrderTest(Case):
    def test_parts_from_left_to_right(self):
        wrong = {"base": 1, "registers": [], "modes": [], "ends": [1, 0], "result": ()}
        names = {"base": "InvalidBase", "registers": "InvalidRegisters", "modes": "InvalidModes",
                 "ends": "InvalidEnds", "result": "InvalidResult"}
        fields = {"base": 1, "registers": None, "modes": None, "ends": [1, 0], "result": ()}
        parts = list(wrong)
        for at, first in enumerate(parts):
            self.refused(names[first], [fields[first]], make, **{part: wrong[part] for part in parts[at:]})

    def test_rows_between_modes_and_ends(self):
        bad = [("m", "up", [(0, 0, STEP, None)])]
        self.refused("InvalidRow", ["m", 1], make, modes=bad, ends=[1, 0], result=())
        self.refused("InvalidRegisters", [0], make, registers=[("r", None)], modes=bad)
        self.refused("InvalidModes", [1], make, modes=[*bad, None])
