"""Tests of twodivisions.programs: what programs tell, and programs that are made from others."""

import random

from tests.samples import RULES, STEP, STRANGE, Case, in_force, some_parts, sums, turned, two_modes
from twodivisions.programs import Program

KEEP = ((1, 0, 0, 0), (0, 1, 0, 1))
TAKE = ((1, 2, 1, 0), (0, 1, 1, -3))
ODD_ROWS = [(None, None, KEEP, "even"), (1, 2, TAKE, "odd"), (None, -1, TAKE, "odd"), (-1, None, KEEP, "odd")]
EVEN_ROWS = [(0, 0, KEEP, None), (None, None, TAKE, "even")]


def as_lists(parts):
    base, registers, modes, ends, result = parts
    return base, list(registers), [(name, rule, list(rows)) for name, rule, rows in modes], list(ends), result


def as_tuples(parts):
    base, registers, modes, ends, result = parts
    return base, tuple(registers), tuple((name, rule, tuple(rows)) for name, rule, rows in modes), tuple(ends), result


def told_of(program):
    modes = [(mode, program.rule_of(mode), program.rows_of(mode)) for mode in program.modes()]
    return program.base, program.registers(), modes, program.ends, program.result


class ToldTest(Case):
    def test_example(self):
        program = turned()
        told = [program(123), program(-120), program.under("down")(123), program["m", 1, 3]]
        self.assertEqual(told, [321, -21, 321, (((10, 1, 0),), "m")])

    def test_parts(self):
        program = two_modes()
        self.assertEqual([program.base, program.size], [-4, 4])
        self.assertEqual([program.ends, program.result], [(-3, 0), (1, -2, 9)])
        self.assertEqual(program.registers(), [("a", 5), ("b", -7)])
        self.assertEqual(program.modes(), ["odd", "even"])
        self.assertEqual([program.rule_of("odd"), program.rule_of(mode="even")], ["near", "up"])
        self.assertEqual([program.rows_of("odd"), program.rows_of(mode="even")], [ODD_ROWS, EVEN_ROWS])

    def test_from_lists_and_tuples(self):
        for parts in some_parts(40):
            base, registers, modes, ends, result = as_lists(parts)
            one, other = Program(*as_lists(parts)), Program(*as_tuples(parts))
            for program in [one, other]:
                self.assertEqual(told_of(program), (base, registers, modes, tuple(ends), result))
                self.assertEqual(program.size, abs(base))
            self.assertTrue(one == other)

    def test_names_of_arguments(self):
        base, registers, modes, ends, result = told_of(two_modes())
        program = Program(result=result, ends=ends, modes=modes, registers=registers, base=base)
        self.assertEqual(told_of(program), told_of(two_modes()))

    def test_bases(self):
        for base in [*range(-10, -1), *range(2, 11)]:
            program = Program(base, [("r", 0)], [("m", "up", [(None, None, STEP, None)])], [], (1, 0))
            self.assertEqual([program.base, program.size, program.ends], [base, abs(base), ()])

    def test_kinds_of_values(self):
        program = Program(*as_lists(told_of(two_modes())))
        self.assertEqual([type(program.ends), type(program.result)], [tuple, tuple])
        for told in [program.registers(), program.modes(), program.rows_of("odd"), program.rows_of("even")]:
            self.assertIs(type(told), list)
        for told in [*program.registers(), *program.rows_of("odd"), program["odd", 0, 0], program["even", 0, 0]]:
            self.assertIs(type(told), tuple)

    def test_unknown_modes(self):
        program = two_modes()
        for value in STRANGE + ["a", "near", "Odd", "odd ", 0, ("odd",), ["odd"]]:
            self.refused("UnknownName", [value], program.rule_of, value)
            self.refused("UnknownName", [value], program.rows_of, value)

    def test_parts_are_not_assigned(self):
        program = two_modes()
        for name in ["base", "size", "ends", "result"]:
            with self.assertRaises(AttributeError):
                setattr(program, name, 5)
        self.assertEqual(told_of(program), told_of(two_modes()))


class CopiesTest(Case):
    def test_lists_that_were_handed_in(self):
        registers, rows, ends = [("r", 0)], [(None, None, STEP, "m")], [0]
        modes = [("m", "zero", rows)]
        program = Program(10, registers, modes, ends, (1, 0))
        self.assertEqual([registers, rows, ends], [[("r", 0)], [(None, None, STEP, "m")], [0]])
        registers.append(("s", 0))
        registers[0] = ("q", 5)
        rows[0] = (None, None, STEP, None)
        rows.append((1, 1, STEP, None))
        modes[0] = ("n", "up", rows)
        modes.append(("m", "up", []))
        ends[0] = 3
        ends.append(5)
        self.assertEqual(told_of(program), (10, [("r", 0)], [("m", "zero", [(None, None, STEP, "m")])], (0,), (1, 0)))
        self.assertEqual([program(123), program["m", 1, 1]], [321, (STEP, "m")])
        self.assertEqual(program, turned())

    def test_lists_that_were_told(self):
        program = two_modes()
        for told in [program.registers(), program.modes(), program.rows_of("odd"), program.rows_of("even")]:
            del told[0]
            told.append("x")
        self.assertEqual(told_of(program), told_of(two_modes()))
        self.assertEqual([program, program["even", 0, 0]], [two_modes(), (KEEP, None)])
        self.assertEqual(program(77), two_modes()(77))

    def test_lists_of_changed_programs(self):
        ends = [-2, 1]
        program = two_modes().changed(ends=ends)
        ends[0] = 0
        self.assertEqual(program.ends, (-2, 1))


class InForceTest(Case):
    def test_each_of_four(self):
        rows = [
            (1, 3, ((1, 1, 1),), None), (None, 3, ((2, 2, 2),), "m"), (1, None, ((3, 3, 3),), "n"),
            (None, None, ((4, 4, 4),), "m"),
        ]
        asked = [(1, 3), (0, 3), (-1, 3), (1, 2), (1, -3), (0, 2), (-1, 0)]
        wanted = [0, 1, 1, 2, 2, 3, 3]
        for turn in range(4):
            program = Program(5, [("r", 0)], [("m", "up", rows[turn:] + rows[:turn]), ("n", "up", rows[3:])], [], (1, 0))
            for (sign, remainder), place in zip(asked, wanted):
                self.assertEqual(program["m", sign, remainder], rows[place][2:])
                self.assertEqual(program["n", sign, remainder], rows[3][2:])

    def test_every_mode_sign_and_remainder(self):
        for parts in some_parts(40):
            program = Program(*parts)
            for name, _, rows in parts[2]:
                for sign in [-1, 0, 1]:
                    for remainder in range(1 - abs(parts[0]), abs(parts[0])):
                        self.assertEqual(program[name, sign, remainder], in_force(rows, sign, remainder))

    def test_errors(self):
        program = two_modes()
        for value in STRANGE + ["a", 0]:
            self.refused("UnknownName", [value], lambda: program[value, 1, 0])
        for value in STRANGE + [2, -2, 10 ** 20]:
            self.refused("InvalidSign", [value], lambda: program["odd", value, 0])
        for value in STRANGE + [4, -4, 10, 10 ** 20]:
            self.refused("InvalidNumber", [value], lambda: program["even", 1, value])

    def test_which_error_comes_first(self):
        program = two_modes()
        self.refused("UnknownName", ["x"], lambda: program["x", 2, 4])
        self.refused("InvalidSign", [2], lambda: program["odd", 2, 4])
        self.refused("UnknownName", [["odd"]], lambda: program[["odd"], None, None])

    def test_programs_cannot_be_iterated(self):
        with self.assertRaises(TypeError):
            iter(turned())
        with self.assertRaises(TypeError):
            list(turned())
        with self.assertRaises(TypeError):
            for _ in turned():
                pass


class EqualityTest(Case):
    def same(self, one, other):
        self.assertTrue(one == other and other == one)
        self.assertFalse(one != other or other != one)

    def unlike(self, one, other):
        self.assertFalse(one == other or other == one)
        self.assertTrue(one != other and other != one)

    def test_equal_parts(self):
        for one, other in zip(some_parts(30), some_parts(30)):
            self.same(Program(*one), Program(*other))

    def test_rows_in_another_order(self):
        chance = random.Random(3)
        for parts in some_parts(30):
            base, registers, modes, ends, result = parts
            mixed = [(name, rule, chance.sample(rows, len(rows))) for name, rule, rows in modes]
            self.same(Program(*parts), Program(base, registers, mixed, ends, result))

    def test_each_part(self):
        base, registers, modes, ends, result = told_of(two_modes())
        (odd, near, rows), even = modes
        for parts in [
            (4, registers, modes, ends, result),
            (-5, registers, modes, ends, result),
            (base, registers[::-1], modes, ends, result),
            (base, [("c", 5), ("b", -7)], modes, ends, result),
            (base, [("a", 5), ("b", -6)], modes, ends, result),
            (base, registers, modes[::-1], ends, result),
            (base, registers, [(odd, "up", rows), even], ends, result),
            (base, registers, [(odd, near, rows[:3]), even], ends, result),
            (base, registers, [(odd, near, rows + [(1, 1, KEEP, "odd")]), even], ends, result),
            (base, registers, [(odd, near, [(None, None, TAKE, "even"), *rows[1:]]), even], ends, result),
            (base, registers, [(odd, near, [(None, None, KEEP, "odd"), *rows[1:]]), even], ends, result),
            (base, registers, [(odd, near, [(None, None, KEEP, None), *rows[1:]]), even], ends, result),
            (base, registers, [(odd, near, [rows[0], (1, 1, TAKE, "odd"), *rows[2:]]), even], ends, result),
            (base, registers, [(odd, near, [rows[0], (0, 2, TAKE, "odd"), *rows[2:]]), even], ends, result),
            (base, registers, [*modes, ("more", "up", [(None, None, KEEP, None)])], ends, result),
            (base, registers, modes, (0,), result),
            (base, registers, modes, (), result),
            (base, registers, modes, (-3, 1), result),
            (base, registers, modes, ends, (1, -2, 8)),
            (base, registers, modes, ends, (1, 2, 9)),
        ]:
            self.unlike(Program(*parts), two_modes())

    def test_another_name_of_a_mode(self):
        one = Program(10, [("r", 0)], [("m", "up", [(None, None, STEP, None)])], [0], (1, 0))
        other = Program(10, [("r", 0)], [("n", "up", [(None, None, STEP, None)])], [0], (1, 0))
        self.unlike(one, other)

    def test_rows_of_unlike_modes_are_not_mixed(self):
        one, two = [(None, None, STEP, None)], [(None, None, STEP, "m")]
        parts = [("m", "up", one), ("n", "up", two)]
        changed = [("m", "up", two), ("n", "up", one)]
        self.unlike(Program(10, [("r", 0)], parts, [], (1, 0)), Program(10, [("r", 0)], changed, [], (1, 0)))

    def test_values_of_other_kinds(self):
        program = turned()
        for value in STRANGE + [0, 10, told_of(program), "m", program.modes(), program.result, Program]:
            self.unlike(program, value)


class ChangedTest(Case):
    def test_changed(self):
        program = two_modes()
        base, registers, modes, ends, result = told_of(program)
        self.assertEqual(told_of(program.changed(base=7)), (7, registers, modes, ends, result))
        self.assertEqual(told_of(program.changed(ends=[1])), (base, registers, modes, (1,), result))
        self.assertEqual(told_of(program.changed(ends=())), (base, registers, modes, (), result))
        self.assertEqual(told_of(program.changed(result=(0, 0, 0))), (base, registers, modes, ends, (0, 0, 0)))
        told = program.changed(base=10, ends=(5, 9), result=(4, 5, 6))
        self.assertEqual(told_of(told), (10, registers, modes, (5, 9), (4, 5, 6)))
        self.assertEqual(program.changed(), program)
        self.assertEqual(program.changed(base=None, ends=None, result=None), program)
        self.assertEqual(told_of(program), told_of(two_modes()))

    def test_changed_refused(self):
        program = two_modes()
        for value in [False, 0, 1, 11, "4", [4]]:
            self.refused("InvalidBase", [value], program.changed, base=value, ends=[9], result=())
        for value in [False, 0, [4], (0, 0), [1, 0], [True], "0"]:
            self.refused("InvalidEnds", [value], program.changed, ends=value, result=())
        for value in [False, 0, (), (1, 2), (1, 2, 3, 4), [1, 2, 3], (1, 2, True)]:
            self.refused("InvalidResult", [value], program.changed, result=value)
        self.refused("InvalidRow", ["odd", 1], program.changed, base=-2, ends=())
        self.refused("InvalidEnds", [(-3, 0)], program.changed, base=3)
        self.assertEqual(told_of(program), told_of(two_modes()))

    def test_changed_takes_names_only(self):
        with self.assertRaises(TypeError):
            two_modes().changed(10)

    def test_with_rule(self):
        program = two_modes()
        base, registers, (odd, even), ends, result = told_of(program)
        for rule in RULES:
            told = program.with_rule("odd", rule)
            self.assertEqual(told_of(told), (base, registers, [("odd", rule, odd[2]), even], ends, result))
            told = program.with_rule(mode="even", rule=rule)
            self.assertEqual(told_of(told), (base, registers, [odd, ("even", rule, even[2])], ends, result))
        self.assertEqual(told_of(program), told_of(two_modes()))

    def test_with_rule_refused(self):
        program = two_modes()
        for value in STRANGE + ["a", "up"]:
            self.refused("UnknownName", [value], program.with_rule, value, "up")
            self.refused("UnknownName", [value], program.with_rule, value, "x")
        for value in STRANGE + ["odd", 0]:
            self.refused("InvalidRule", [value], program.with_rule, "odd", value)
        self.assertEqual(told_of(program), told_of(two_modes()))

    def test_under(self):
        program = two_modes()
        base, registers, (odd, even), ends, result = told_of(program)
        for rule in RULES:
            modes = [("odd", rule, odd[2]), ("even", rule, even[2])]
            self.assertEqual(told_of(program.under(rule=rule)), (base, registers, modes, ends, result))
        for value in STRANGE + ["odd", 0]:
            self.refused("InvalidRule", [value], program.under, value)
        self.assertEqual(told_of(program), told_of(two_modes()))

    def test_a_changed_rule_changes_runs(self):
        self.assertEqual([sums()(-26), sums()(26), sums().under("near")(26)], [-8, 8, -1])
        self.refused("Endless", [-25], sums().under("down"), -25)


class WithRowTest(Case):
    def test_in_place_of_a_row(self):
        program = two_modes()
        for place, (sign, remainder, _, _) in enumerate(ODD_ROWS):
            told = program.with_row("odd", sign, remainder, TAKE, None)
            wanted = [*ODD_ROWS[:place], (sign, remainder, TAKE, None), *ODD_ROWS[place + 1:]]
            self.assertEqual([told.rows_of("odd"), told.rows_of("even")], [wanted, EVEN_ROWS])
            base, registers, modes, ends, result = told_of(program)
            changed = [("odd", "near", wanted), modes[1]]
            self.assertEqual(told_of(told), (base, registers, changed, ends, result))
        self.assertEqual(told_of(program), told_of(two_modes()))

    def test_behind_the_rows(self):
        program = two_modes()
        for sign, remainder in [(1, None), (1, 1), (0, 2), (-1, -1), (None, 3), (None, 1), (0, None)]:
            told = program.with_row(mode="odd", sign=sign, remainder=remainder, updates=TAKE, then="even")
            self.assertEqual(told.rows_of("odd"), [*ODD_ROWS, (sign, remainder, TAKE, "even")])
            self.assertEqual(told.rows_of("even"), EVEN_ROWS)
            self.assertEqual(told["odd", sign or 0, remainder or 0], in_force(told.rows_of("odd"), sign or 0, remainder or 0))
        self.assertEqual(told_of(program), told_of(two_modes()))

    def test_of_another_mode(self):
        told = two_modes().with_row("even", 0, 0, TAKE, "odd")
        self.assertEqual(told.rows_of("even"), [(0, 0, TAKE, "odd"), EVEN_ROWS[1]])
        self.assertEqual([told.rows_of("odd"), told["even", 0, 0]], [ODD_ROWS, (TAKE, "odd")])

    def test_unknown_modes(self):
        for value in STRANGE + ["a", 0]:
            self.refused("UnknownName", [value], two_modes().with_row, value, 5, 9, (), "x")

    def test_what_can_be_no_sign_or_remainder(self):
        program = two_modes()
        for value in [value for value in STRANGE if value is not None] + [2, -2]:
            self.refused("InvalidRow", ["odd", 4], program.with_row, "odd", value, None, KEEP, None)
            self.refused("InvalidRow", ["odd", 4], program.with_row, "odd", value, 2, KEEP, None)
            self.refused("InvalidRow", ["even", 2], program.with_row, "even", value, 0, KEEP, None)
        for value in [value for value in STRANGE if value is not None] + [4, -4]:
            self.refused("InvalidRow", ["odd", 4], program.with_row, "odd", None, value, KEEP, None)
            self.refused("InvalidRow", ["even", 2], program.with_row, "even", 0, value, KEEP, None)

    def test_wrong_updates_and_modes(self):
        program = two_modes()
        wrong = [*STRANGE, 0, KEEP[:1], KEEP + KEEP[:1], list(KEEP), (list(KEEP[0]), KEEP[1]), ((1, 2, 3), KEEP[1]),
                 ((1, 2, 3, True), KEEP[1]), (KEEP[0], (1, 2, 3, 10 ** 6 + 1))]
        for value in wrong:
            self.refused("InvalidRow", ["odd", 1], program.with_row, "odd", 1, 2, value, None)
            self.refused("InvalidRow", ["odd", 0], program.with_row, "odd", None, None, value, None)
            self.refused("InvalidRow", ["odd", 4], program.with_row, "odd", 0, 2, value, None)
        for value in [value for value in STRANGE if value is not None] + ["x", 0, ("odd",)]:
            self.refused("InvalidRow", ["odd", 1], program.with_row, "odd", 1, 2, KEEP, value)
            self.refused("InvalidRow", ["even", 2], program.with_row, "even", 1, 2, KEEP, value)
        self.assertEqual(told_of(program), told_of(two_modes()))


class CalledTest(Case):
    def test_rests_and_stops(self):
        self.assertEqual([turned()(0), turned()(7), turned()(number=1200), sums()(999)], [0, 7, 21, 27])
        stops = Program(10, [("s", 4)], [("m", "down", [(None, None, ((2, 1, 0),), "m"), (1, 7, ((1, 0, 5),), None)])],
                        [0, 3], (3, 1))
        self.assertEqual([stops(7), stops(1275), stops(0), stops(12)], [28, 55, 13, 64])
        self.refused("Endless", [-1], stops, -1)

    def test_long_numbers(self):
        text = "12345678901234567890123456789012345678901234567891"
        self.assertEqual([turned()(int(text)), turned()(-int(text))], [int(text[::-1]), -int(text[::-1])])
        self.assertEqual(sums()(-int(text)), -sum(int(figure) for figure in text))

    def test_endless(self):
        program = sums().under("down")
        for number in [-1, -10, -123, -10 ** 30]:
            self.refused("Endless", [number], program, number)
        self.assertEqual(program(10 ** 30), 1)
        program = sums().changed(ends=())
        for number in [0, 1, -1, 77]:
            self.refused("Endless", [number], program, number)

    def test_no_integers(self):
        for value in STRANGE:
            self.refused("InvalidNumber", [value], turned(), value)
