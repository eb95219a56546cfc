import unittest
from fractions import Fraction

from twodivisions.ratios import Ratio

from tests.samples import STRANGE, Case

LONG = 10 ** 30 - 1
TOPS = [0, 1, -1, 2, -3, 4, 6, 10, LONG, -LONG, 2 ** 90]
BOTTOMS = [1, -1, 2, -2, 3, 6, -10, LONG, 2 ** 90]


def exact(ratio):
    """The fraction of a ratio, which must be in lowest terms."""
    fraction = Fraction(ratio.top, ratio.bottom)
    assert (fraction.numerator, fraction.denominator) == (ratio.top, ratio.bottom)
    return fraction


def several():
    """Tuples of a ratio and its fraction."""
    return [(Ratio(top, bottom), Fraction(top, bottom)) for top in TOPS for bottom in BOTTOMS]


class TermsTest(Case):
    def test_lowest_terms(self):
        for top in TOPS:
            for bottom in BOTTOMS:
                ratio, fraction = Ratio(top, bottom), Fraction(top, bottom)
                self.assertEqual((ratio.top, ratio.bottom), (fraction.numerator, fraction.denominator))

    def test_by_name(self):
        self.assertEqual([Ratio(7).top, Ratio(7).bottom, Ratio(top=6, bottom=-4).top], [7, 1, -3])

    def test_0(self):
        for bottom in BOTTOMS:
            self.assertEqual((Ratio(0, bottom).top, Ratio(0, bottom).bottom), (0, 1))

    def test_refused(self):
        for value in STRANGE:
            self.refused("InvalidRatio", [value], Ratio, value)
            self.refused("InvalidRatio", [value], Ratio, value, 0)
            self.refused("InvalidRatio", [value], Ratio, 3, value)
            self.refused("InvalidRatio", [value], Ratio, value, "other")
        self.refused("InvalidRatio", [STRANGE[8]], Ratio, STRANGE[8], 2)
        half = Ratio(1, 2)
        self.refused("InvalidRatio", [half], Ratio, half)
        self.refused("InvalidRatio", [half], Ratio, 1, half)
        for top in TOPS:
            self.refused("DivisionByZero", [], Ratio, top, 0)


class SumsTest(Case):
    def test_ratios_beside_ratios(self):
        for one, left in several():
            for other, right in several():
                self.assertEqual(exact(one + other), left + right)
                self.assertEqual(exact(one - other), left - right)
                self.assertEqual(exact(one * other), left * right)
                if right != 0:
                    self.assertEqual(exact(one.over(other)), left / right)

    def test_integers_on_either_side(self):
        for ratio, fraction in several():
            for number in TOPS:
                self.assertEqual(exact(ratio + number), fraction + number)
                self.assertEqual(exact(number + ratio), number + fraction)
                self.assertEqual(exact(ratio - number), fraction - number)
                self.assertEqual(exact(number - ratio), number - fraction)
                self.assertEqual(exact(ratio * number), fraction * number)
                self.assertEqual(exact(number * ratio), number * fraction)
                if number != 0:
                    self.assertEqual(exact(ratio.over(number)), fraction / number)

    def test_turned_sign(self):
        for ratio, fraction in several():
            told = -ratio
            self.assertEqual(exact(told), -fraction)
            self.assertEqual(exact(ratio), fraction)

    def test_over_0(self):
        for ratio, _ in several():
            self.refused("DivisionByZero", [], ratio.over, 0)
            self.refused("DivisionByZero", [], ratio.over, other=Ratio(0, 5))

    def test_results_are_ratios(self):
        half = Ratio(1, 2)
        for told in [half + half, half + 1, 1 + half, half - 1, 1 - half, half * 2, 2 * half, half.over(2), -half]:
            self.assertIs(type(told), Ratio)

    def test_nothing_is_changed(self):
        one, other = Ratio(1, 2), Ratio(2, 3)
        one += other
        self.assertEqual([one, other], [Ratio(7, 6), Ratio(2, 3)])


class OrderTest(Case):
    def test_beside_fractions(self):
        for one, left in several():
            for other, right in several():
                self.assertIs(one < other, left < right)
                self.assertIs(one <= other, left <= right)
                self.assertIs(one > other, left > right)
                self.assertIs(one >= other, left >= right)
                self.assertIs(one == other, left == right)
                self.assertIs(one != other, left != right)

    def test_unequal_to_other_values(self):
        for value in [*STRANGE, 0, 1, Fraction(1), "1/1"]:
            for ratio in [Ratio(0), Ratio(1)]:
                self.assertIs(ratio == value, False)
                self.assertIs(ratio != value, True)
                self.assertIs(value == ratio, False)


if __name__ == "__main__":
    unittest.main()
