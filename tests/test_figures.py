"""Tests of twodivisions.figures."""

import random

from tests.samples import RULES, STRANGE, Case, random_numbers, some_parts, sums, turned
from twodivisions.figures import figures_of, number_of, standings
from twodivisions.programs import Program
from twodivisions.rules import carry
from twodivisions.running import run

NUMBERS = [*range(-130, 131), 10 ** 20, -10 ** 20, 2 ** 90, 3 ** 70 - 1, -7 ** 50, 10 ** 59 + 1]


class FiguresOfTest(Case):
    def test_figures(self):
        self.assertEqual(figures_of(120, 10), (0, 2, 1))
        self.assertEqual([figures_of(-6, 2), figures_of(0, 7), figures_of(9, 10), figures_of(number=10, size=3)],
                         [(0, 1, 1), (), (9,), (1, 0, 1)])

    def test_there_and_back(self):
        for size in range(2, 11):
            for number in NUMBERS:
                figures = figures_of(number, size)
                self.assertIs(type(figures), tuple)
                self.assertEqual(figures, figures_of(-number, size))
                self.assertTrue(all(type(figure) is int and 0 <= figure < size for figure in figures))
                self.assertEqual(sum(figure * size ** at for at, figure in enumerate(figures)), abs(number))
                self.assertTrue(figures[-1] != 0 if number else figures == ())
                self.assertEqual(number_of(-1 if number < 0 else 1, figures, size), number)
                self.assertEqual(number_of(1 if number < 0 else -1, figures, size), -number)

    def test_errors(self):
        for value in STRANGE:
            self.refused("InvalidNumber", [value], figures_of, value, 10)
            self.refused("InvalidNumber", [value], figures_of, value, 1)
        for value in STRANGE + [0, 1, 11, -2, -10, 10 ** 20]:
            self.refused("InvalidBase", [value], figures_of, 7, value)
            self.refused("InvalidBase", [value], figures_of, 0, value)


class NumberOfTest(Case):
    def test_numbers(self):
        self.assertEqual([number_of(1, (0, 2, 1), 10), number_of(-1, (0, 1, 1), 2)], [120, -6])
        self.assertEqual([number_of(1, (), 5), number_of(-1, (), 5)], [0, 0])
        self.assertEqual(number_of(size=3, figures=(1, 0, 1), sign=-1), -10)
        self.assertEqual(number_of(1, (9,) * 60, 10), 10 ** 60 - 1)

    def test_figures_there_and_back(self):
        chance = random.Random(5)
        for size in range(2, 11):
            for _ in range(40):
                figures = [chance.randrange(size) for _ in range(chance.randint(0, 30))]
                figures = (*figures, chance.randint(1, size - 1))
                for sign in [1, -1]:
                    self.assertEqual(figures_of(number_of(sign, figures, size), size), figures)

    def test_signs(self):
        for value in STRANGE + [0, 2, -2]:
            self.refused("InvalidSign", [value], number_of, value, (1,), 10)
            self.refused("InvalidSign", [value], number_of, value, (0,), 1)

    def test_sizes(self):
        for value in STRANGE + [0, 1, 11, -2, -10]:
            self.refused("InvalidBase", [value], number_of, 1, (1,), value)
            self.refused("InvalidBase", [value], number_of, -1, (0,), value)
            self.refused("InvalidBase", [value], number_of, -1, None, value)

    def test_wrong_figures(self):
        wrong = [1, (0,), (1, 0), (0, 0), (10,), (-1,), (1, 10), (10, 1), (-1, 1), [1, 2], (True,), (1, True), (False, 1),
                 (None,), ("1",), ((1,),), (None, 1), "12"]
        for value in wrong + [value for value in STRANGE if value != ()]:
            self.refused("InvalidFigures", [value], number_of, 1, value, 10)
            self.refused("InvalidFigures", [value], number_of, -1, value, 10)
        for size in range(2, 11):
            self.assertEqual(number_of(1, (size - 1,), size), size - 1)
            self.refused("InvalidFigures", [(size,)], number_of, 1, (size,), size)
            self.refused("InvalidFigures", [(size, 1)], number_of, 1, (size, 1), size)
            self.refused("InvalidFigures", [(1, 0)], number_of, 1, (1, 0), size)


class StandingsTest(Case):
    def test_a_base_above_0(self):
        self.assertEqual(standings(turned(), 123), [("m", 1, 123, 0), ("m", 1, 12, 0), ("m", 1, 1, 0)])
        self.assertEqual(standings(turned(), -12), [("m", -1, 12, 0), ("m", -1, 1, 0)])
        down = sums().under("down")
        self.assertEqual(standings(down, -12), [("m", -1, 12, 0), ("m", -1, 1, 1), ("m", -1, 0, 1)])
        self.assertEqual(standings(program=down, number=-10), [("m", -1, 10, 0), ("m", -1, 1, 0)])

    def test_a_base_below_0(self):
        back = sums().changed(base=-10)
        self.assertEqual(standings(back, 123), [("m", 1, 123, 0), ("m", -1, 12, 0), ("m", 1, 1, 0)])
        self.assertEqual(standings(back.under("down"), 123), [("m", 1, 123, 0), ("m", -1, 12, 1), ("m", 1, 1, 0), ("m", -1, 0, 1)])
        self.assertEqual(standings(back.under("up"), -123), [("m", -1, 123, 0), ("m", 1, 12, 1), ("m", -1, 1, 0), ("m", 1, 0, 1)])

    def test_zero(self):
        self.assertEqual(standings(turned(), 0), [])
        for base in [10, -10]:
            program = Program(base, [("r", 0)], [("m", "up", [(None, None, ((0, 0, 0),), "n")]),
                                                 ("n", "near", [(None, None, ((0, 0, 0),), "m")])], [], (1, 0))
            self.assertEqual(standings(program, 0), [("m", 1, 0, 0), ("n", 1, 0, 0)])
            wanted = [("m", 1, 5, 0), ("n", 1, 0, 1), ("m", 1, 0, 0), ("n", 1, 0, 0)]
            if base < 0:
                wanted = [("m", 1, 5, 0), ("n", -1, 0, 0), ("m", 1, 0, 0)]
            self.assertEqual(standings(program, 5), wanted)

    def test_beside_runs(self):
        chance = random.Random(13)
        for parts in some_parts(150):
            program = Program(*parts)
            for number in random_numbers(chance):
                self.beside(program, number)

    def beside(self, program, number):
        rounds, told = run(program, number).rounds(), standings(program, number)
        self.assertIs(type(told), list)
        self.assertEqual(len(told), len(rounds))
        figures = figures_of(number, program.size)
        first = -1 if number < 0 else 1
        turned_round = -1 if program.base < 0 and number else 1
        for at, ((mode, x, _), standing) in enumerate(zip(rounds, told)):
            name, sign, m, k = standing
            self.assertIs(type(standing), tuple)
            self.assertEqual([name, sign], [mode, first * turned_round ** at])
            self.assertEqual(m, number_of(1, figures[at:], program.size))
            self.assertIn(k, [0, 1])
            self.assertEqual(x, sign * (m + k))

    def test_the_next_carry(self):
        chance = random.Random(14)
        for parts in some_parts(60):
            program = Program(*parts)
            for number in random_numbers(chance):
                rounds, told = run(program, number).rounds(), standings(program, number)
                for at in range(len(told) - 1):
                    mode, sign, m, k = told[at]
                    wanted = carry(program.rule_of(mode), sign, program.base, k + m % program.size)
                    self.assertEqual((told[at + 1][3], rounds[at][2]), wanted)

    def test_modes_with_unlike_rules(self):
        step = ((0, 0, 0),)
        for one in RULES:
            for other in RULES:
                for base in [-10, -3, 2, 7]:
                    modes = [("a", one, [(None, None, step, "b")]), ("b", other, [(None, None, step, "a")])]
                    for number in [-10 ** 25 - 77, -55, -1, 0, 1, 7, 55, 10 ** 25 + 5]:
                        self.beside(Program(base, [("r", 0)], modes, [], (1, 0)), number)

    def test_errors(self):
        for value in STRANGE:
            self.refused("InvalidNumber", [value], standings, turned(), value)
