import math
import random
import time
import unittest
from fractions import Fraction

from twodivisions.programs import Program
from twodivisions.ratios import Ratio
from twodivisions.relations import Relations

from tests.oracles import is_right_relation, with_parts
from tests.samples import (
    STRANGE, Case, figures_in, numbers_up_to, play, random_numbers, rank_of, some_parts, sums, turned, two_modes, weigh,
)

FIGURES = {2: 7, 3: 4, 4: 3, 5: 3, 10: 2}
KEEP = ((1, 0, 0, 0), (0, 1, 0, 0))


def several():
    """Tuples of the parts of a program and a sign, with many relations in some of them."""
    chance = random.Random(41)
    for at in range(90):
        size = [2, 3, 2, 4, 10][at % 5]
        registers = 1 + at % 3
        if at % 3 == 0:
            parts = some_parts(at % 8 + 1, size)[-1]
        else:
            parts = with_parts(chance.choice([size, -size]), "abcd"[:1 + at % 4], chance, registers, at % 2, 1)
        yield parts, [None, 1, -1][at % 4 % 3]
    for parts in told_programs():
        for sign in (None, 1, -1):
            yield parts, sign


def told_programs():
    """Programs of which it is known what holds."""
    again = (0, 10, 0, 0)
    # The number itself: each remainder is added as often as its place tells.
    reads = [(None, left, ((1, left, 0, 0), (0, 3, 0, 0)), "m") for left in range(-2, 3)]
    reads.append((None, None, KEEP, "m"))
    products = [(None, None, ((1, 0, 1, 0), (1, 1, 0, 0)), "m")]
    return [
        (10, [("x", 2), ("y", 6)], [("m", "zero", [(None, None, ((1, 0, 1, 0), (0, 1, 3, 0)), "m")])], [0], (1, 0, 0)),
        (10, [("x", 0), ("y", 0)], [("m", "zero", [(None, None, ((1, 0, 1, 0), again), "m")])], [0], (1, 0, 0)),
        (2, [("s", 0), ("p", 1)], [("m", "zero", products)], [0], (1, 0, 0)),
        (3, [("s", 0), ("t", 1)], [("m", "near", reads)], [0], (1, 0, 0)),
        (3, [("r", 5)], [("m", "down", [(None, None, ((1, 0, 0),), "m")])], [], (1, 0)),
        (3, [("r", 5)], [("m", "zero", [(None, None, ((1, 0, 0),), None)])], [], (1, 0)),
        (-3, [("r", 5)], [("m", "zero", [(None, None, ((0, 0, 0),), "m")])], [0], (1, 0)),
    ]


def numbers_of(parts, sign):
    """The numbers of a sign that are tried, those with fewer figures first."""
    numbers = numbers_up_to(FIGURES[abs(parts[0])], abs(parts[0]))
    return [number for number in numbers if sign is None or (number >= 0) == (sign == 1)]


def long_numbers(size):
    """Some numbers of both signs with up to twelve figures."""
    chance = random.Random(15)
    told = [chance.randint(size ** (many - 1), size ** many - 1) for many in range(1, 13) for _ in range(20)]
    return [*told, *[-number for number in told]]


def end_rows(parts, sign, numbers=None):
    """The list of the tuples (number, row of the registers at the end, N and 1) of the runs that end."""
    told = []
    numbers = numbers_of(parts, sign) if numbers is None else numbers
    for number in [number for number in numbers if sign is None or (number >= 0) == (sign == 1)]:
        run = play(parts, number)
        if run["how"] != "endless":
            told.append((number, [*run["registers"][-1], number, 1]))
    return told


class FormsTest(Case):
    def test_beside_runs(self):
        told = set()
        for parts, sign in several():
            relations = Relations(Program(*parts), sign=sign)
            forms = relations.forms()
            rows = end_rows(parts, sign)
            width = len(parts[1]) + 2
            for form in forms:
                self.assertEqual([type(form), *[type(entry) for entry in form]], [tuple] + [int] * width)
                self.assertEqual(math.gcd(*form), 1)
                self.assertGreater([entry for entry in form if entry != 0][0], 0)
                self.assertEqual([number for number, row in rows if weigh(form, row) != 0], [])
            self.assertEqual(rank_of(forms), len(forms))
            rows = rows + end_rows(parts, sign, long_numbers(abs(parts[0])))
            self.assertEqual(len(forms), width - rank_of([row for _, row in rows]))
            self.assertEqual(len(relations), len(forms))
            told.add(len(forms))
        self.assertLessEqual({0, 1, 3}, told)

    def test_long_numbers(self):
        chance = random.Random(8)
        for parts, sign in several():
            forms = Relations(Program(*parts), sign=sign).forms()
            for number in random_numbers(chance):
                run = play(parts, number)
                if (sign is None or (number >= 0) == (sign == 1)) and run["how"] != "endless":
                    values = [weigh(form, [*run["registers"][-1], number, 1]) for form in forms]
                    self.assertEqual(values, [0] * len(forms))

    def test_known_relations(self):
        parts = told_programs()
        relations = Relations(Program(*parts[0]))
        self.assertEqual([relations.forms(), len(relations)], [[(3, -1, 0, 0)], 1])
        self.assertEqual(Relations(Program(*parts[3])).forms(), [(1, 0, -1, 0)])
        self.assertEqual(Relations(turned()).forms(), [])

    def test_all_numbers_are_endless(self):
        program = sums().changed(ends=())
        for sign in (None, 1, -1):
            relations = Relations(program=program, sign=sign)
            self.assertEqual(rank_of(relations.forms()), 3)
            self.assertEqual([len(relations), (5, -7, 9) in relations, relations.broken((1, 2, 3))], [3, True, None])
            self.assertTrue(is_right_relation((10, [("s", 0)], [("m", "zero", [(None, None, ((1, 1, 0),), "m")])], [],
                                               (1, 0)), (5, -7, 9), relations.paper(), sign))

    def test_only_0_ends(self):
        program = sums().under("down")
        self.assertEqual(len(Relations(program, sign=-1)), 3)
        self.assertEqual(len(Relations(program, sign=1)), 0)
        stays = Program(10, [("r", 5)], [("m", "zero", [(None, None, ((1, 0, 0),), "m"), (0, None, ((1, 0, 0),), None)])],
                        [], (1, 0))
        self.assertEqual(Relations(stays).forms(), [(1, 0, -5)])

    def test_the_list_is_new(self):
        relations = Relations(sums().changed(ends=()))
        relations.forms().clear()
        self.assertEqual(len(relations.forms()), 3)


class InTest(Case):
    def test_beside_forms(self):
        chance = random.Random(12)
        answers = set()
        for parts, sign in several():
            relations = Relations(Program(*parts), sign=sign)
            forms = relations.forms()
            width = len(parts[1]) + 2
            rows = end_rows(parts, sign)
            for _ in range(8):
                form = tuple(chance.randint(-1, 1) for _ in range(width))
                if forms and chance.random() < 0.5:
                    form = tuple(sum(f[at] for f in forms) * 3 for at in range(width))
                within = form in relations
                answers.add(within)
                self.assertIs(within, not any(weigh(form, row) != 0 for _, row in rows))
            self.assertIs((0,) * width in relations, True)
        self.assertEqual(answers, {True, False})

    def test_refused(self):
        for program in (sums(), two_modes()):
            width = len(program.registers()) + 2
            relations = Relations(program)
            wrong = [*STRANGE, (1,) * (width - 1), (1,) * (width + 1), [1] * width, (True,) * width, (1,) * (width - 1)
                     + (None,), (1.0,) * width, ("1",) * width, (Ratio(1),) * width, width]
            for form in wrong:
                self.refused("InvalidForm", [form], relations.__contains__, form)
                self.refused("InvalidForm", [form], relations.broken, form)


class BrokenTest(Case):
    def test_beside_runs(self):
        chance = random.Random(13)
        told = set()
        for parts, sign in several():
            relations = Relations(Program(*parts), sign=sign)
            width = len(parts[1]) + 2
            size = abs(parts[0])
            rows = end_rows(parts, sign)
            forms = [tuple(chance.randint(-2, 2) for _ in range(width)) for _ in range(6)]
            # Some relations hold for few figures only.
            forms += [form for form in Relations(Program(*parts), sign=1).forms()]
            for form in forms:
                number = relations.broken(form=form)
                self.assertIs(number is None, form in relations)
                found = [n for n, row in rows if weigh(form, row) != 0]
                if number is None:
                    self.assertEqual(found, [])
                    continue
                self.assertTrue(sign is None or (number >= 0) == (sign == 1))
                run = play(parts, number)
                self.assertNotEqual(run["how"], "endless")
                self.assertNotEqual(weigh(form, [*run["registers"][-1], number, 1]), 0)
                if found:
                    self.assertEqual(figures_in(number, size), figures_in(found[0], size))
                told.add(figures_in(number, size))
        self.assertLessEqual({0, 1, 2}, told)

    def test_0(self):
        self.assertEqual(Relations(sums()).broken((1, 0, 5)), 0)
        self.assertEqual(Relations(sums(), sign=1).broken((1, 0, 5)), 0)
        self.assertIn(Relations(sums(), sign=-1).broken((1, 0, 0)), range(-9, 0))
        self.assertIn(Relations(sums()).broken((1, -1, 0)), [*range(-99, -9), *range(10, 100)])
        self.assertIsNone(Relations(sums().under("down"), sign=-1).broken((1, 0, 5)))

    def test_long_words(self):
        # Ends with 1 only behind three figures that are 2, and 0 everywhere else.
        rows = [[(None, 2, ((1, 0, 0),), then), (None, -2, ((1, 0, 0),), then), (None, None, ((0, 0, 0),), None)]
                for then in "bcd"]
        rows.append([(0, None, ((0, 0, 1),), None), (None, None, ((0, 0, 0),), None)])
        modes = [("abcd"[at], "zero", told) for at, told in enumerate(rows)]
        program = Program(3, [("r", 0)], modes, [], (1, 0))
        for sign in (1, -1):
            self.assertEqual(Relations(program, sign=sign).broken((1, 0, 0)), sign * 26)
        self.assertIn(Relations(program).broken((1, 0, 0)), [26, -26])


class RecoverTest(Case):
    def test_beside_runs(self):
        told = [0, 0]
        for parts, sign in several():
            relations = Relations(Program(*parts), sign=sign)
            many = len(parts[1])
            ratios = relations.recover()
            self.assertEqual(ratios is None, not any(form[many] != 0 for form in relations.forms()))
            told[ratios is None] += 1
            if ratios is not None:
                self.assertEqual([type(ratios), *[type(ratio) for ratio in ratios]], [tuple] + [Ratio] * (many + 1))
                factors = [Fraction(ratio.top, ratio.bottom) for ratio in ratios]
                for number, row in end_rows(parts, sign):
                    self.assertEqual(weigh(factors, [*row[:many], 1]), number)
        self.assertGreater(min(told), 5)

    def test_known_ratios(self):
        self.assertEqual(Relations(Program(*told_programs()[3])).recover(), (Ratio(1), Ratio(0), Ratio(0)))
        self.assertIsNone(Relations(sums()).recover())
        # The register is twice the number of a single figure and 3 more; longer numbers stop with 0.
        zero, kept = ((0, 0, 0),), ((0, 2, 3),)
        rows = [(None, None, kept, "n")]
        ends = [("m", "zero", rows), ("n", "zero", [(None, None, ((1, 0, 0),), "n")])]
        self.assertIsNone(Relations(Program(10, [("r", 0)], ends, [0], (1, 0))).recover())
        # All numbers but those of one figure are endless.
        ends = [("m", "zero", rows), ("n", "zero", [(None, None, zero, "n")])]
        program = Program(10, [("r", 3)], ends, [], (1, 0))
        self.assertEqual(len(Relations(program).forms()), 3)
        rests = [(0, None, ((1, 0, 0),), None), (None, None, zero, "n")]
        program = Program(10, [("r", 3)], [("m", "zero", rows), ("n", "zero", rests)], [], (1, 0))
        self.assertIsNone(Relations(program).recover())
        rests = [(0, None, ((1, 0, 0),), None), (None, None, zero, "o")]
        modes = [("m", "zero", rows), ("n", "zero", rests), ("o", "zero", [(None, None, zero, "o")])]
        relations = Relations(Program(10, [("r", 3)], modes, [], (1, 0)))
        self.assertEqual([relations.forms(), relations.recover()], [[(1, -2, -3)], (Ratio(1, 2), Ratio(-3, 2))])


class PaperTest(Case):
    def test_right_for_each_form(self):
        for parts, sign in several():
            relations = Relations(Program(*parts), sign=sign)
            paper = relations.paper()
            self.assertIsInstance(paper, tuple)
            self.assertEqual(len(paper), 2 if sign is None else 1)
            width = len(parts[1]) + 2
            forms = relations.forms()
            mixed = tuple(sum(form[at] * (k + 2) for k, form in enumerate(forms)) for at in range(width))
            for form in [*forms, mixed, (0,) * width]:
                self.assertTrue(is_right_relation(parts, form, paper, sign))

    def test_not_right_for_others(self):
        parts = told_programs()[0]
        for sign in (None, 1, -1):
            paper = Relations(Program(*parts), sign=sign).paper()
            self.assertTrue(is_right_relation(parts, (3, -1, 0, 0), paper, sign))
            self.assertFalse(is_right_relation(parts, (3, -1, 0, 1), paper, sign))
            self.assertFalse(is_right_relation(parts, (3, -2, 0, 0), paper, sign))


class WithinTest(Case):
    def test_beside_forms(self):
        answers = set()
        chance = random.Random(14)
        relations = [(Relations(Program(*parts), sign=sign), len(parts[1])) for parts, sign in several()]
        for _ in range(1500):
            one, many = chance.choice(relations)
            other, more = chance.choice(relations)
            if many == more:
                within = one <= other
                answers.add((within, len(one) > 0))
                self.assertIs(within, all([form in other for form in one.forms()]))
                self.assertIs(within, rank_of(one.forms() + other.forms()) == len(other.forms()))
        self.assertEqual(answers, {(True, True), (True, False), (False, True)})

    def test_unlike_numbers_of_registers(self):
        one, other = Relations(sums()), Relations(two_modes(), sign=-1)
        self.refused("Unlike", [1, 2], one.__le__, other)
        self.refused("Unlike", [2, 1], other.__le__, one)
        self.assertTrue(one <= Relations(sums().changed(base=-7), sign=1))

    def test_unequal_to_other_values(self):
        relations = Relations(sums())
        for value in [*STRANGE, sums()]:
            self.assertTrue(relations != value)
            self.assertFalse(relations == value)


class RefusedTest(Case):
    def test_programs_and_signs(self):
        for value in [*STRANGE, 10, "sums"]:
            self.refused("InvalidProgram", [value], Relations, value)
            self.refused("InvalidProgram", [value], Relations, value, sign=1)
            self.refused("InvalidProgram", [value], Relations, value, sign=0)
        for value in [*STRANGE[1:], 0, 2, -2]:
            self.refused("InvalidSign", [value], Relations, sums(), sign=value)
        with self.assertRaises(TypeError):
            Relations(sums(), 1)


class TimeTest(Case):
    def test_four_modes_three_registers_base_10(self):
        chance = random.Random(2)
        for base in (10, -10):
            parts = with_parts(base, "abcd", chance, 3, 1, 10 ** 6)
            start = time.perf_counter()
            relations = Relations(Program(*parts))
            paper = relations.paper()
            relations.broken((1, 2, 3, 4, 5))
            self.assertLess(time.perf_counter() - start, 10)
            for form in relations.forms():
                self.assertTrue(is_right_relation(parts, form, paper, None))


if __name__ == "__main__":
    unittest.main()
