import random
import unittest
from fractions import Fraction

from twodivisions.ratios import Ratio
from twodivisions.rows import Row

from tests.samples import STRANGE, Case


def entries_of(row):
    """The entries of a row as fractions."""
    assert all(type(row[at]) is Ratio for at in range(len(row)))
    return [Fraction(row[at].top, row[at].bottom) for at in range(len(row))]


def some_rows(many=60):
    """Tuples of a row and its entries as fractions."""
    chance = random.Random(2)
    told = []
    for at in range(many):
        entries = [Fraction(chance.randint(-9, 9), chance.choice([1, 1, 2, 7, 10 ** 30])) for _ in range(1 + at % 12)]
        told.append((Row(*[Ratio(entry.numerator, entry.denominator) for entry in entries]), entries))
    return told


class EntriesTest(Case):
    def test_integers_and_ratios(self):
        row = Row(3, Ratio(1, -2), 0, -10 ** 40)
        self.assertEqual(entries_of(row), [3, Fraction(-1, 2), 0, -10 ** 40])
        self.assertEqual(len(row), 4)

    def test_widths(self):
        for width in range(1, 13):
            row = Row(*range(width))
            self.assertEqual([len(row), entries_of(row)], [width, list(range(width))])
        self.refused("InvalidRows", [None], Row)
        self.refused("InvalidRows", [None], Row, *range(13))
        self.refused("InvalidRows", [None], Row, *[Ratio(1, 3)] * 30)

    def test_entries_that_are_none(self):
        for value in [*STRANGE, Fraction(1), Row(1)]:
            self.refused("InvalidRows", [value], Row, value)
            self.refused("InvalidRows", [value], Row, 1, Ratio(1, 2), value, 2)
            self.refused("InvalidRows", [value], Row, 1, value, "later", None)
            self.refused("InvalidRows", [value], Row, *range(12), value)
            self.refused("InvalidRows", [value], Row, *range(20), value)

    def test_places_that_are_none(self):
        for width in (1, 3):
            row = Row(*range(width))
            for place in [*STRANGE, -1, width, 12, 10 ** 20, -width, slice(0, 1), Ratio(0)]:
                self.refused("InvalidNumber", [place], row.__getitem__, place)

    def test_rows_cannot_be_iterated(self):
        row = Row(1, 2)
        for call in [iter, list, tuple, sorted, lambda told: [*told], lambda told: 1 in told]:
            with self.assertRaises(TypeError):
                call(row)


class SumsTest(Case):
    def test_rows_of_the_same_width(self):
        for one, left in some_rows():
            for other, right in some_rows():
                if len(one) == len(other):
                    self.assertEqual(entries_of(one + other), [a + b for a, b in zip(left, right)])
                    self.assertEqual(entries_of(one - other), [a - b for a, b in zip(left, right)])

    def test_multiples(self):
        for row, entries in some_rows():
            for number, factor in [(0, 0), (-3, -3), (Ratio(2, 7), Fraction(2, 7)), (Ratio(0), 0), (10 ** 40, 10 ** 40)]:
                self.assertEqual(entries_of(row * number), [entry * factor for entry in entries])
                self.assertEqual(entries_of(number * row), [entry * factor for entry in entries])

    def test_unlike_widths(self):
        for one, _ in some_rows(12):
            for other, _ in some_rows(12):
                if len(one) != len(other):
                    self.refused("InvalidRows", [other], one.__add__, other)
                    self.refused("InvalidRows", [other], one.__sub__, other)

    def test_results_are_new_rows(self):
        one, other = Row(1, 2), Row(3, 4)
        for told in [one + other, one - other, one * 1, 1 * one, Ratio(1) * one]:
            self.assertIs(type(told), Row)
        self.assertEqual([one, other], [Row(1, 2), Row(3, 4)])


class DotTest(Case):
    def test_values(self):
        chance = random.Random(6)
        for row, entries in some_rows():
            for _ in range(5):
                form = tuple(chance.randint(-9, 9) for _ in entries)
                told = row.dot(form)
                self.assertIs(type(told), Ratio)
                value = sum((a * b for a, b in zip(entries, form)), Fraction(0))
                self.assertEqual((told.top, told.bottom), (value.numerator, value.denominator))
        self.assertEqual(Row(1, 2).dot(form=(5, 10 ** 30)), Ratio(5 + 2 * 10 ** 30))

    def test_values_that_are_no_forms(self):
        for width in (1, 2, 3):
            row = Row(*range(width))
            wrong = [*STRANGE, (1,) * (width + 1), (1,) * (width - 1), [1] * width, (True,) * width, (1.5,) * width,
                     ("1",) * width, (1,) * (width - 1) + (False,), (Ratio(1),) * width, row, width]
            for form in wrong:
                self.refused("InvalidForm", [form], row.dot, form)

    def test_is_zero(self):
        for row, entries in some_rows():
            self.assertIs(row.is_zero(), not any(entries))
        for width in range(1, 13):
            self.assertIs(Row(*[0] * width).is_zero(), True)
            self.assertIs(Row(*[0] * (width - 1), Ratio(1, 9)).is_zero(), False)


class EqualTest(Case):
    def test_rows(self):
        for one, left in some_rows():
            for other, right in some_rows():
                self.assertIs(one == other, left == right)
                self.assertIs(one != other, left != right)
        self.assertTrue(Row(1, 2) == Row(Ratio(2, 2), Ratio(-4, -2)))
        self.assertFalse(Row(1, 2) == Row(1, 2, 0))

    def test_other_values(self):
        for row in [Row(1), Row(0), Row(1, 2)]:
            for value in [*STRANGE, 1, (1,), [1], Ratio(1)]:
                self.assertIs(row == value, False)
                self.assertIs(row != value, True)


if __name__ == "__main__":
    unittest.main()
