import time
import unittest

from twodivisions.endless import EndlessNumbers
from twodivisions.programs import Program

from tests.samples import RULES, STRANGE, Case, figures_in, numbers_up_to, play, some_parts, sums, turned, two_modes


def behind_word(word, size=10):
    """Never ends exactly if the lowest figures are the word."""
    keep = ((1, 0, 0),)
    names = ["a", "b", "c", "d"]
    modes = []
    for at, figure in enumerate(word):
        rows = {(None, left): (None, left, keep, names[at + 1]) for left in (figure, -figure)}
        modes.append((names[at], "zero", [*rows.values(), (None, None, keep, None)]))
    modes.append((names[len(word)], "zero", [(None, None, keep, names[len(word)])]))
    return Program(size, [("r", 0)], modes, [], (1, 0))


def endless_below():
    """Never ends on all numbers below 0, and ends on all others."""
    rows = [(None, None, ((1, 0, 0),), "m")]
    return Program(10, [("r", 0)], [("m", "down", rows)], [0], (1, 0))


def parts_for_counts():
    """The parts of programs with small bases, many of them endless on some numbers."""
    return [*some_parts(25, 2), *some_parts(25, 3), *some_parts(12, 5), *some_parts(4, 10)]


def endless_up_to(parts, figures):
    """All endless numbers of at most so many figures, by runs."""
    return [number for number in numbers_up_to(figures, abs(parts[0])) if play(parts, number)["how"] == "endless"]


FIGURES = {2: 6, 3: 4, 5: 3, 10: 2}


class InTest(Case):
    def test_numbers(self):
        for parts in parts_for_counts():
            endless = EndlessNumbers(Program(*parts))
            for number in [*range(-30, 31), 10 ** 50, -10 ** 50, 3 ** 80]:
                self.assertIs(number in endless, play(parts, number)["how"] == "endless")

    def test_values_that_are_no_integers(self):
        for program in [endless_below(), sums().changed(ends=())]:
            endless = EndlessNumbers(program=program)
            for value in STRANGE:
                self.assertIs(value in endless, False)
        # 1 and 0 are endless for the last one, True and False are not.
        self.assertEqual([1 in endless, 0 in endless, True in endless, False in endless], [True, True, False, False])

    def test_a_long_word_of_remainders(self):
        program = behind_word((3, 0, 7))
        endless = EndlessNumbers(program)
        self.assertEqual([703 in endless, 1703 in endless, -5703 in endless], [True, True, True])
        self.assertEqual([713 in endless, 3 in endless, 170 in endless, 0 in endless], [False] * 4)
        self.assertEqual([endless.least(1), endless.least(-1)], [703, -703])
        self.assertEqual([endless.count(many, 1) for many in range(6)], [0, 0, 0, 1, 9, 90])
        self.assertEqual(list(endless.numbers(4))[:6], [-703, 703, -1703, 1703, -2703, 2703])

    def test_endless_on_all_numbers_below_0(self):
        endless = EndlessNumbers(endless_below())
        self.assertEqual([endless.least(1), endless.least(-1), endless.is_empty()], [None, -1, False])
        self.assertEqual([endless.count(many, 1) for many in range(4)], [0, 0, 0, 0])
        self.assertEqual([endless.count(many, -1) for many in range(4)], [0, 9, 90, 900])
        self.assertEqual(list(endless.numbers(2)), list(range(-1, -100, -1)))


class CountTest(Case):
    def test_beside_runs(self):
        for parts in parts_for_counts():
            size = abs(parts[0])
            endless = EndlessNumbers(Program(*parts))
            found = endless_up_to(parts, FIGURES[size])
            for many in range(1, FIGURES[size] + 1):
                for sign in (1, -1):
                    wanted = [n for n in found if n * sign > 0 and figures_in(n, size) == many]
                    self.assertEqual(endless.count(many, sign), len(wanted))
            for sign in (1, -1):
                self.assertEqual(endless.count(figures=0, sign=sign), int(0 in found))

    def test_a_thousand_figures(self):
        for base in [*range(2, 11), *range(-10, -1)]:
            program = two_modes().changed(base=base, ends=()) if abs(base) > 3 else sums().changed(base=base)
            start = time.perf_counter()
            for sign in (1, -1):
                endless = EndlessNumbers(program)
                for many in (999, 1000):
                    self.assertGreaterEqual(endless.count(many, sign), 0)
            self.assertLess(time.perf_counter() - start, 4)
        endless = EndlessNumbers(endless_below().changed(base=7))
        self.assertEqual([endless.count(1000, 1), endless.count(1000, -1)], [0, 6 * 7 ** 999])
        endless = EndlessNumbers(behind_word((3, 0, 7)))
        self.assertEqual(endless.count(1000, -1), 9 * 10 ** 996)

    def test_refused(self):
        endless = EndlessNumbers(turned())
        for figures in [*STRANGE, -1, 1001, 10 ** 20]:
            self.refused("InvalidNumber", [figures], endless.count, figures, 1)
            self.refused("InvalidNumber", [figures], endless.count, figures, 0)
        for sign in [*STRANGE, 0, 2, -2]:
            self.refused("InvalidSign", [sign], endless.count, 3, sign)
            self.refused("InvalidSign", [sign], endless.least, sign)
        self.assertEqual([endless.count(0, 1), endless.count(1000, -1)], [0, 0])


class LeastTest(Case):
    def test_beside_runs(self):
        nones = 0
        for parts in parts_for_counts():
            size = abs(parts[0])
            endless = EndlessNumbers(Program(*parts))
            found = endless_up_to(parts, FIGURES[size])
            for sign in (1, -1):
                wanted = [n for n in found if n * sign > 0 or n == 0 and sign == 1][:1]
                least = endless.least(sign=sign)
                if wanted != []:
                    self.assertEqual(least, wanted[0])
                elif least is not None:
                    self.assertGreater(figures_in(least, size), FIGURES[size])
                    self.assertEqual(play(parts, least)["how"], "endless")
                    self.assertTrue(least * sign > 0)
                nones += least is None
            self.assertIs(endless.is_empty(), endless.least(1) is None and endless.least(-1) is None)
        self.assertGreater(nones, 20)

    def test_0_has_the_sign_1(self):
        rows = [(0, None, ((1, 0, 0),), "m"), (None, None, ((1, 0, 0),), None)]
        endless = EndlessNumbers(Program(10, [("r", 0)], [("m", "zero", rows)], [], (1, 0)))
        self.assertEqual([endless.least(1), endless.least(-1), endless.is_empty()], [0, None, False])
        self.assertEqual([endless.count(0, 1), endless.count(0, -1), endless.count(1, 1)], [1, 1, 0])
        self.assertEqual(list(endless.numbers(3)), [0])

    def test_numbers_with_many_figures(self):
        # The rows (sign, remainder, next mode); all other runs stop.
        rows = {
            "a": [(1, 0, "a"), (-1, -1, "c"), (-1, 1, "d")],
            "b": [(1, -1, "d"), (1, 0, "b"), (1, 1, "d"), (-1, -1, "d"), (-1, 1, "b"), (0, -1, "c"), (0, 1, "b")],
            "c": [(1, 1, "b"), (-1, 0, "c"), (-1, 1, "c"), (0, 0, "c"), (0, 1, "a")],
            "d": [(1, -1, "c"), (1, 1, "b"), (-1, -1, "c")],
        }
        rules = {"a": "near", "b": "near", "c": "positive", "d": "down"}
        modes = []
        for mode in rows:
            told = [(sign, left, ((1, 0, 0),), then) for sign, left, then in rows[mode]]
            modes.append((mode, rules[mode], [*told, (None, None, ((1, 0, 0),), None)]))
        parts = (-2, [("r", 0)], modes, [], (1, 0))
        endless = EndlessNumbers(Program(*parts))
        self.assertEqual([endless.least(1), endless.least(-1)], [162, -81])
        self.assertEqual([n for n in range(-81, 163) if play(parts, n)["how"] == "endless"], [-81, 162])

    def test_only_nines_are_endless(self):
        keep = ((1, 0, 0),)
        stop = (None, None, keep, None)
        names = ["a", "b", "c", "d"]
        modes = [(names[at], "zero", [(None, 9, keep, names[at + 1]), stop]) for at in range(3)]
        modes.append(("d", "zero", [(0, 0, keep, "d"), (1, 9, keep, "d"), stop]))
        endless = EndlessNumbers(Program(10, [("r", 0)], modes, [], (1, 0)))
        self.assertEqual([endless.least(1), endless.least(-1)], [999, None])
        self.assertEqual([endless.count(many, 1) for many in range(7)], [0, 0, 0, 1, 1, 1, 1])


class NumbersTest(Case):
    def test_beside_runs(self):
        for parts in parts_for_counts():
            figures = FIGURES[abs(parts[0])]
            endless = EndlessNumbers(Program(*parts))
            for most in (0, 1, figures):
                self.assertEqual(list(endless.numbers(most)), endless_up_to(parts, most))

    def test_both_signs_and_0(self):
        endless = EndlessNumbers(sums().changed(ends=()))
        self.assertEqual(list(endless.numbers(figures=1)), [0, *[n for m in range(1, 10) for n in (-m, m)]])
        self.assertEqual(list(endless.numbers(0)), [0])

    def test_the_first_ones_of_many_come_at_once(self):
        told = EndlessNumbers(endless_below()).numbers(1000)
        self.assertEqual([next(told) for _ in range(3)], [-1, -2, -3])

    def test_refused_when_the_iteration_begins(self):
        endless = EndlessNumbers(turned())
        for figures in [*STRANGE, -1, 1001]:
            told = endless.numbers(figures)
            self.refused("InvalidNumber", [figures], next, told)

    def test_twice(self):
        endless = EndlessNumbers(endless_below())
        self.assertEqual(list(endless.numbers(1)), list(endless.numbers(1)))


class WithinTest(Case):
    def test_beside_runs(self):
        answers = set()
        for size in (2, 3):
            several = [(parts, EndlessNumbers(Program(*parts))) for parts in some_parts(24, size)]
            several = [(parts, told, set(endless_up_to(parts, 4))) for parts, told in several]
            for parts, one, found in several:
                for others, other, more in several:
                    within = one <= other
                    answers.add(within)
                    if within:
                        self.assertTrue(found <= more)
                    elif found <= more:
                        self.look_for_a_longer_one(parts, others)
        self.assertEqual(answers, {True, False})

    def look_for_a_longer_one(self, parts, others):
        found = [n for n in numbers_up_to(9, abs(parts[0]))
                 if play(parts, n)["how"] == "endless" and play(others, n)["how"] != "endless"]
        self.assertNotEqual(found, [])

    def test_unlike_signs_of_bases(self):
        below = endless_below()
        turning = below.changed(base=-10)
        # 'down' by -10 leaves 0 or less, which turns its sign: 1 goes to -1, and that to 1.
        one, other = EndlessNumbers(below), EndlessNumbers(turning)
        for sign in (1, -1):
            self.assertEqual(one.least(sign), {1: None, -1: -1}[sign])
        self.assertEqual(one <= other, all(n in other for n in range(-500, 0)))
        self.assertEqual(other <= one, all(n in one for n in range(-500, 500) if n in other))

    def test_0_counts(self):
        rows = [(0, None, ((1, 0, 0),), "m"), (None, None, ((1, 0, 0),), None)]
        zero = EndlessNumbers(Program(10, [("r", 0)], [("m", "zero", rows)], [], (1, 0)))
        none = EndlessNumbers(turned())
        self.assertEqual([zero <= none, none <= zero, zero <= zero], [False, True, True])

    def test_unlike_modes_and_registers(self):
        keep = ((1, 0, 0, 0), (0, 1, 0, 0))
        both = Program(10, [("a", 1), ("b", 2)], [
            ("x", "down", [(None, None, keep, "y")]), ("y", "zero", [(None, None, keep, "x")])], [0], (1, 1, 0))
        one, other = EndlessNumbers(both), EndlessNumbers(endless_below())
        self.assertEqual([one <= other, other <= one, one.is_empty()], [True, False, True])

    def test_a_long_word_parts_them(self):
        one, other = EndlessNumbers(behind_word((3, 0, 7))), EndlessNumbers(behind_word((3, 0)))
        self.assertEqual([one <= other, other <= one], [True, False])

    def test_unlike_sizes(self):
        one, other = EndlessNumbers(turned()), EndlessNumbers(two_modes())
        self.refused("Unlike", [10, 4], one.__le__, other)
        self.refused("Unlike", [4, 10], other.__le__, one)
        self.assertTrue(one <= EndlessNumbers(sums().under("down").changed(base=-10)))

    def test_unequal_to_other_values(self):
        endless = EndlessNumbers(turned())
        for value in [*STRANGE, turned()]:
            self.assertTrue(endless != value)
            self.assertFalse(endless == value)

    def test_all_rules(self):
        for rule in RULES:
            endless = EndlessNumbers(sums().under(rule))
            for other in RULES:
                within = all(n in EndlessNumbers(sums().under(other)) for n in endless.numbers(1))
                self.assertEqual(endless <= EndlessNumbers(sums().under(other)), within)


if __name__ == "__main__":
    unittest.main()
