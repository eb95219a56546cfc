"""Tests of twodivisions.rules."""

import random

from tests.samples import RULES, STRANGE, Case, divided
from twodivisions.rules import carry, divide, rule_names

LONG = [10 ** 19 + 7, 10 ** 20 + 5, 123456789012345678901234567890, 2 ** 70, 2 ** 70 + 1, 3 * 10 ** 59 + 1]
BASES = [base for base in range(-10, 11) if abs(base) > 1]


class RuleNamesTest(Case):
    def test_five_in_order(self):
        self.assertEqual(rule_names(), RULES)

    def test_each_list_is_new(self):
        told = rule_names()
        told.append("other")
        told[0] = "other"
        self.assertEqual(rule_names(), RULES)
        self.assertEqual(divide("down", 7, 2), (3, 1))
        self.refused("InvalidRule", ["other"], divide, "other", 7, 2)


class DivideTest(Case):
    def test_examples(self):
        told = [divide(rule, -7, 2) for rule in RULES]
        self.assertEqual(told, [(-4, 1), (-3, -1), (-3, -1), (-4, 1), (-4, 1)])
        self.assertEqual([divide("down", 7, -2), divide("near", 6, -4)], [(-4, -1), (-1, 2)])

    def test_signs_of_both(self):
        wanted = {
            "down": [(2, 1), (-3, 2), (-3, -2), (2, -1)],
            "up": [(3, -2), (-2, -1), (-2, 1), (3, 2)],
            "zero": [(2, 1), (-2, -1), (-2, 1), (2, -1)],
            "positive": [(2, 1), (-3, 2), (-2, 1), (3, 2)],
            "near": [(2, 1), (-2, -1), (-2, 1), (2, -1)],
        }
        for rule in RULES:
            self.assertEqual([divide(rule, x, base) for x, base in [(7, 3), (-7, 3), (7, -3), (-7, -3)]], wanted[rule])

    def test_small_numbers(self):
        for rule in RULES:
            for base in [*range(-13, 0), *range(1, 14), 60, -60, 99, -100]:
                for x in range(-130, 131):
                    self.assertEqual(divide(rule, x, base), divided(rule, x, base), (rule, x, base))

    def test_the_table_itself(self):
        for base in [-10, -7, -4, -1, 1, 2, 3, 8, 10, 17]:
            for x in range(-60, 61):
                told = {rule: divide(rule, x, base) for rule in RULES}
                for q, d in told.values():
                    self.assertEqual(x, q * base + d)
                    self.assertLess(abs(d), abs(base))
                self.assertGreaterEqual(told["positive"][1], 0)
                self.assertLessEqual(2 * abs(told["near"][1]), abs(base))
                self.assertNotEqual(2 * told["near"][1], -abs(base))
                self.assertLessEqual(told["down"][0], told["up"][0])

    def test_exact_quotients(self):
        for rule in RULES:
            for base in [-11, -10, -2, -1, 1, 2, 7, 10]:
                for q in [-5, -1, 0, 1, 6, 10 ** 30]:
                    self.assertEqual(divide(rule, q * base, base), (q, 0))

    def test_halves(self):
        for x, base, told in [
            (5, 10, (0, 5)), (-5, 10, (-1, 5)), (5, -10, (0, 5)), (-5, -10, (1, 5)),
            (15, 10, (1, 5)), (-15, 10, (-2, 5)), (15, -10, (-1, 5)), (-15, -10, (2, 5)),
            (1, 2, (0, 1)), (-1, 2, (-1, 1)), (1, -2, (0, 1)), (-1, -2, (1, 1)),
        ]:
            self.assertEqual(divide("near", x, base), told)

    def test_long_numbers(self):
        chance = random.Random(7)
        for rule in RULES:
            for x in [*LONG, *[chance.randint(10 ** 20, 10 ** 60) for _ in range(20)]]:
                for base in [2, 3, 4, 7, 10, 97, 10 ** 9, x - 1, x + 1, 2 * x, 10 ** 25]:
                    for s, t in [(1, 1), (1, -1), (-1, 1), (-1, -1)]:
                        self.assertEqual(divide(rule, s * x, t * base), divided(rule, s * x, t * base))

    def test_names_of_arguments(self):
        self.assertEqual(divide(base=2, x=-7, rule="up"), (-3, -1))

    def test_kinds_of_values(self):
        told = divide("up", -7, 2)
        self.assertIs(type(told), tuple)
        self.assertEqual([type(part) for part in told], [int, int])

    def test_errors(self):
        for value in STRANGE + [0, 1, -1]:
            self.refused("InvalidRule", [value], divide, value, 7, 2)
        for value in STRANGE:
            for rule in RULES:
                self.refused("InvalidNumber", [value], divide, rule, value, 2)
                self.refused("InvalidBase", [value], divide, rule, 7, value)
        for rule in RULES:
            self.refused("InvalidBase", [0], divide, rule, 7, 0)
            self.refused("InvalidBase", [0], divide, rule, 0, 0)

    def test_which_error_comes_first(self):
        self.refused("InvalidRule", ["x"], divide, "x", True, 0)
        self.refused("InvalidRule", [None], divide, None, 3, 0)
        self.refused("InvalidNumber", [True], divide, "up", True, 0)
        self.refused("InvalidNumber", ["3"], divide, "zero", "3", False)


class CarryTest(Case):
    def test_example(self):
        self.assertEqual(carry("down", -1, 10, 7), (1, 3))

    def test_figures_of_ten(self):
        self.assertEqual([carry("near", 1, 10, k) for k in [0, 4, 5, 6, 10]],
                         [(0, 0), (0, 4), (0, 5), (1, -4), (1, 0)])
        self.assertEqual([carry("near", -1, 10, k) for k in [0, 4, 5, 6, 10]],
                         [(0, 0), (0, -4), (1, 5), (1, 4), (1, 0)])
        self.assertEqual([carry(rule, 1, -10, 3) for rule in RULES], [(1, -7), (0, 3), (0, 3), (0, 3), (0, 3)])

    def test_beside_divide(self):
        for rule in RULES:
            for base in BASES:
                size = abs(base)
                for sign in [1, -1]:
                    turned = sign if base > 0 else -sign
                    for figure in range(size + 1):
                        told, remainder = carry(rule, sign, base, figure)
                        self.assertIn(told, [0, 1])
                        for m in [0, 1, 2, 3, 9, 10, 11, 10 ** 21, 10 ** 30 + 7]:
                            x = sign * (size * m + figure)
                            self.assertEqual(divide(rule, x, base), (turned * (m + told), remainder))

    def test_names_of_arguments(self):
        self.assertEqual(carry(figure=7, base=10, sign=-1, rule="down"), (1, 3))

    def test_kinds_of_values(self):
        for sign in [1, -1]:
            told = carry("near", sign, -10, 6)
            self.assertIs(type(told), tuple)
            self.assertEqual([type(part) for part in told], [int, int])

    def test_errors(self):
        for value in STRANGE + [1]:
            self.refused("InvalidRule", [value], carry, value, 1, 10, 3)
        for value in STRANGE + [0, 2, -2]:
            self.refused("InvalidSign", [value], carry, "down", value, 10, 3)
        for value in STRANGE + [0, 1, -1, 11, -11, 10 ** 20]:
            self.refused("InvalidBase", [value], carry, "down", 1, value, 1)
        for value in STRANGE + [-1, 10 ** 20]:
            self.refused("InvalidNumber", [value], carry, "down", 1, 10, value)
        for base in BASES:
            self.refused("InvalidNumber", [abs(base) + 1], carry, "up", -1, base, abs(base) + 1)
            self.refused("InvalidNumber", [-1], carry, "up", -1, base, -1)

    def test_which_error_comes_first(self):
        self.refused("InvalidRule", [1], carry, 1, 0, 0, -1)
        self.refused("InvalidSign", [0], carry, "up", 0, 0, -1)
        self.refused("InvalidBase", [1], carry, "up", 1, 1, -1)
        self.refused("InvalidSign", [True], carry, "up", True, 10, 3)
