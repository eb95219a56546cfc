import itertools
import math
import random
import unittest
from fractions import Fraction

from twodivisions.ratios import Ratio
from twodivisions.rows import Row
from twodivisions.spans import Span

from tests.samples import STRANGE, Case, rank_of

WIDTHS = [1, 2, 3, 4, 6, 12]


def row_of(entries):
    return Row(*[Ratio(Fraction(entry).numerator, Fraction(entry).denominator) for entry in entries])


def some_lists(width, seed=1):
    """A list of rows as lists of fractions: new ones, sums of multiples of those ahead, and rows of zeros."""
    chance = random.Random(seed * 100 + width)
    told = []
    for _ in range(chance.randint(1, 9)):
        kind = chance.choice(["new", "new", "sum", "zero", "again"])
        if kind == "new" or told == []:
            told.append([Fraction(chance.choice([0, 0, 1, -1, 2, 7]), chance.choice([1, 2, 3])) for _ in range(width)])
        elif kind == "sum":
            factors = [Fraction(chance.randint(-2, 2), chance.randint(1, 3)) for _ in told]
            told.append([sum(f * row[at] for f, row in zip(factors, told)) for at in range(width)])
        elif kind == "zero":
            told.append([Fraction(0)] * width)
        else:
            told.append(list(chance.choice(told)))
    return told


def spans_of():
    """Tuples of a span and the list of the lists of its rows."""
    for width in WIDTHS:
        for seed in range(12):
            lists = some_lists(width, seed)
            span = Span(width)
            for entries in lists:
                span = span.added(row_of(entries))
            yield span, lists, width


class RankTest(Case):
    def test_no_rows(self):
        for width in range(1, 13):
            span = Span(width=width)
            self.assertEqual([span.width, span.rank, span.rows()], [width, 0, []])
            self.assertEqual(span.forms(), [tuple(int(at == place) for at in range(width)) for place in range(width)])
            self.assertEqual(span.parts(Row(*[0] * width)), [])
            self.assertIsNone(span.parts(Row(*[0] * (width - 1), 2)))

    def test_widths(self):
        for width in [*STRANGE, 0, -1, 13, 10 ** 20, Ratio(2)]:
            self.refused("InvalidNumber", [width], Span, width)

    def test_ranks(self):
        for span, lists, width in spans_of():
            self.assertEqual([span.rank, span.width], [rank_of(lists), width])

    def test_rows_that_are_none(self):
        span = Span(3).added(Row(1, 2, 3))
        for row in [*STRANGE, (1, 2, 3), [1, 2, 3], Row(1, 2), Row(1, 2, 3, 4), Span(3), 3, Ratio(3)]:
            self.refused("InvalidRows", [row], span.added, row)
            self.assertIs(row in span, False)
            self.assertIsNone(span.parts(row))

    def test_the_elder_span_stays(self):
        elder = Span(2).added(Row(1, 1))
        elder.added(Row(0, 1)).added(row=Row(0, 0))
        self.assertEqual([elder.rank, elder.rows(), elder.forms()], [1, [Row(1, 1)], [(1, -1)]])
        self.assertEqual([elder.parts(Row(2, 2)), Row(0, 1) in elder], [[Ratio(2)], False])
        elder.rows().clear()
        elder.forms().clear()
        elder.parts(Row(2, 2)).clear()
        self.assertEqual([elder.rows(), elder.forms(), len(elder.parts(Row(2, 2)))], [[Row(1, 1)], [(1, -1)], 1])


class PartsTest(Case):
    def test_rows(self):
        for span, lists, _ in spans_of():
            wanted = [entries for at, entries in enumerate(lists) if rank_of(lists[:at + 1]) > rank_of(lists[:at])]
            self.assertEqual(span.rows(), [row_of(entries) for entries in wanted])

    def test_parts_of_rows_in_the_span(self):
        chance = random.Random(8)
        for span, lists, width in spans_of():
            within = [rank_of(lists[:at + 1]) == rank_of(lists[:at]) for at in range(len(lists))]
            factors = [Fraction(chance.randint(-5, 5), chance.randint(1, 5)) for _ in lists]
            mixed = [sum(f * entries[at] for f, entries in zip(factors, lists)) for at in range(width)]
            for entries in [*lists, mixed, [Fraction(0)] * width]:
                row = row_of(entries)
                self.assertIs(row in span, True)
                told = span.parts(row=row)
                self.assertEqual([type(part) for part in told], [Ratio] * len(lists))
                parts = [Fraction(part.top, part.bottom) for part in told]
                self.assertEqual([sum(p * one[at] for p, one in zip(parts, lists)) for at in range(width)], entries)
                self.assertEqual([part for part, ahead in zip(parts, within) if ahead and part != 0], [])

    def test_rows_that_are_not_in_the_span(self):
        chance = random.Random(9)
        for span, lists, width in spans_of():
            for _ in range(6):
                entries = [Fraction(chance.randint(-2, 2)) for _ in range(width)]
                within = rank_of([*lists, entries]) == rank_of(lists)
                self.assertIs(row_of(entries) in span, within)
                self.assertEqual(span.parts(row_of(entries)) is None, not within)

    def test_several_orders(self):
        rows = [Row(1, 2, 3), Row(0, 0, 0), Row(2, 4, 6), Row(1, 0, Ratio(1, 2)), Row(0, 2, Ratio(5, 2))]
        spans = []
        for order in itertools.permutations(rows):
            span = Span(3)
            for row in order:
                span = span.added(row)
            self.assertEqual(span.rank, 2)
            total = Row(0, 0, 0)
            for part, row in zip(span.parts(Row(3, 4, Ratio(13, 2))), order):
                total = total + part * row
            self.assertEqual(total, Row(3, 4, Ratio(13, 2)))
            spans.append(span)
        self.assertTrue(all(one == spans[0] for one in spans))
        self.assertTrue(all(one.forms() == spans[0].forms() for one in spans))


class FormsTest(Case):
    def test_forms(self):
        for span, lists, width in spans_of():
            forms = span.forms()
            self.assertEqual(len(forms), width - rank_of(lists))
            self.assertEqual(rank_of(forms), len(forms))
            for form in forms:
                self.assertIs(type(form), tuple)
                self.assertEqual([type(entry) for entry in form], [int] * width)
                self.assertEqual(math.gcd(*form), 1)
                self.assertGreater([entry for entry in form if entry != 0][0], 0)
                for entries in lists:
                    self.assertEqual(sum(a * b for a, b in zip(form, entries)), 0)

    def test_large_entries(self):
        long = 10 ** 40 + 1
        span = Span(2).added(Row(long, Ratio(1, long)))
        self.assertEqual(span.forms(), [(1, -long * long)])
        self.assertEqual(span.added(Row(0, 1)).forms(), [])


class OrderTest(Case):
    def test_within_and_equal(self):
        chance = random.Random(4)
        told = set()
        for width in (1, 2, 3):
            several = [(span, lists) for span, lists, own in spans_of() if own == width]
            several.append((Span(width), []))
            for one, left in several:
                for other, right in several:
                    within = rank_of(left + right) == rank_of(right)
                    same = within and rank_of(left) == rank_of(right)
                    self.assertIs(one <= other, within)
                    self.assertIs(one == other, same)
                    self.assertIs(one != other, not same)
                    told.add((within, same))
            for one, left in several:
                more = one.added(row_of([chance.randint(-3, 3) for _ in range(width)]))
                self.assertIs(one <= more, True)
        self.assertEqual(told, {(True, True), (True, False), (False, False)})

    def test_another_width(self):
        one, other = Span(2), Span(3)
        self.refused("InvalidRows", [other], one.__le__, other)
        self.refused("InvalidRows", [one], other.__le__, one)
        self.assertIs(one == other, False)

    def test_other_values(self):
        for value in [*STRANGE, Row(1), 1, Ratio(1)]:
            self.assertIs(Span(1) == value, False)
            self.assertIs(Span(1) != value, True)


if __name__ == "__main__":
    unittest.main()
