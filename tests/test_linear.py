import itertools
import random
import time
import unittest
from fractions import Fraction

from twodivisions.linear import PRIMES, Integers, Residues, determinant, is_regular, machine_value
from twodivisions.ratios import Ratio

from tests.samples import STRANGE, Case, rank_of

ONE = ((1,),)


def leibniz(table):
    """The determinant as a sum over all orders of the columns."""
    many = len(table)
    total = 0
    for order in itertools.permutations(range(many)):
        turns = sum(order[at] > order[beside] for at in range(many) for beside in range(at + 1, many))
        product = (-1) ** turns
        for at in range(many):
            product *= table[at][order[at]]
        total += product
    return total


def random_table(chance, many, most=3):
    """A table of lists and tuples, mixed."""
    rows = [[chance.randint(-most, most) for _ in range(many)] for _ in range(many)]
    return chance.choice([list, tuple])(chance.choice([list, tuple])(row) for row in rows)


class DeterminantTest(Case):
    def test_empty_and_small_tables(self):
        self.assertEqual([determinant([]), determinant(()), determinant(((7,),)), determinant([[0]])], [1, 1, 7, 0])
        self.assertEqual(determinant(table=[[1, 2], (3, 4)]), -2)
        self.assertEqual(determinant([[0, 1], [1, 0]]), -1)
        self.assertEqual(determinant([(0, 0, 2), (3, 0, 0), (0, 5, 0)]), 30)

    def test_beside_the_sum_over_all_orders(self):
        chance = random.Random(1)
        zero = 0
        for at in range(600):
            table = random_table(chance, at % 6, [1, 2, 3, 10 ** 13][at % 4])
            value = determinant(table)
            self.assertIs(type(value), int)
            self.assertEqual(value, leibniz(table))
            zero += value == 0
        self.assertGreater(zero, 20)

    def test_rows_that_depend_on_each_other(self):
        chance = random.Random(2)
        for many in range(2, 6):
            for _ in range(20):
                rows = [list(row) for row in random_table(chance, many, 10 ** 13)]
                rows[chance.randrange(many)] = [sum(3 * n for n in column) for column in zip(*rows[:1], *rows[:1])]
                sums = rows[:-1] + [[sum(column) for column in zip(*rows[:-1])]]
                self.assertEqual(determinant(sums), 0)

    def test_rows_swapped_and_multiplied(self):
        chance = random.Random(3)
        for many in range(2, 6):
            table = [list(row) for row in random_table(chance, many, 10 ** 6)]
            value = determinant(table)
            at, beside = chance.sample(range(many), 2)
            swapped = list(table)
            swapped[at], swapped[beside] = table[beside], table[at]
            self.assertEqual(determinant(swapped), -value)
            self.assertEqual(determinant([[5 * n for n in table[0]], *table[1:]]), 5 * value)
            self.assertEqual(determinant(list(zip(*table))), value)

    def test_the_table_stays_as_it_was(self):
        table = [[2, 1], [4, 3]]
        rows = list(table)
        self.assertEqual([determinant(table), table, table[0] is rows[0]], [2, [[2, 1], [4, 3]], True])

    def test_no_square_tables(self):
        wrong = [value for value in STRANGE if value not in ([], ()) and value != [[]]]
        wrong += [[[]], ((),), [[1, 2]], [[1], [2]], [[1, 2], [3]], [[1, 2], [3, True]], [[False]], [[None]], [["1"]],
                  [1], [[1, 2], 3], [{1}], "1", [["a"]], [[1, 2], "34"], [[1.5]], [range(1)], {0: [1]}, [[Ratio(1)]],
                  [[1, 2, 3], [4, 5, 6], [7, 8]]]
        for table in wrong:
            self.refused("InvalidRows", [table], determinant, table)

    def test_time(self):
        chance = random.Random(4)
        start = time.perf_counter()
        determinant(random_table(chance, 40, 10 ** 13))
        self.assertLess(time.perf_counter() - start, 2)


def value_by_fractions(machine, word):
    """The value by the words of the document."""
    def fraction(entry):
        return Fraction(entry.top, entry.bottom) if isinstance(entry, Ratio) else Fraction(entry)
    first, matrices, last = machine
    row = [fraction(entry) for entry in first]
    for figure in word:
        matrix = matrices[figure]
        row = [sum(row[at] * fraction(matrix[at][place]) for at in range(len(row))) for place in range(len(row))]
    return sum(own * fraction(entry) for own, entry in zip(row, last))


def random_machine(chance, many, size):
    """A linear machine with so many entries, integers and ratios, for a size."""
    def entry():
        return chance.choice([chance.randint(-3, 3), Ratio(chance.randint(-5, 5), chance.choice([1, 2, 3, 7, -4]))])

    def line():
        return tuple(entry() for _ in range(many))

    return line(), tuple(tuple(line() for _ in range(many)) for _ in range(size)), line()


class MachineValueTest(Case):
    def test_beside_fractions(self):
        chance = random.Random(5)
        for at in range(300):
            size = chance.randint(2, 10)
            machine = random_machine(chance, at % 5, size)
            word = tuple(chance.randrange(size) for _ in range(chance.choice([0, 1, 2, 3, 9])))
            value = machine_value(machine=machine, word=word)
            self.assertIs(type(value), Ratio)
            self.assertEqual(Fraction(value.top, value.bottom), value_by_fractions(machine, word))

    def test_no_entries_and_the_empty_word(self):
        empty = ((), ((), ()), ())
        self.assertEqual([machine_value(empty, ()), machine_value(empty, (1, 0, 1))], [Ratio(0), Ratio(0)])
        self.assertEqual(machine_value(((1, 2), (((1, 0), (0, 1)),) * 2, (Ratio(1, 2), 3)), ()), Ratio(13, 2))
        self.assertEqual(machine_value(((2,), (((3,),), ((5,),)), (7,)), (0, 1, 1, 0)), Ratio(2 * 225 * 7))

    def test_the_order_of_the_figures(self):
        swap, twice = ((0, 1), (1, 0)), ((2, 0), (0, 1))
        machine = ((1, 0), (swap, twice), (1, 10))
        self.assertEqual(machine_value(machine, (0, 1)), Ratio(10))
        self.assertEqual(machine_value(machine, (1, 0)), Ratio(20))

    def test_wrong_machines(self):
        good = (1, 2), (((1, 0), (0, 1)), ((1, 1), (0, 1))), (3, 4)
        first, matrices, last = good
        self.assertEqual(machine_value(good, (1,)), Ratio(15))
        wrong = [*STRANGE, good[:2], (*good, ()), list(good), (list(first), matrices, last), (first, list(matrices), last),
                 (first, matrices, list(last)), (first, matrices, (3,)), (first, matrices, (3, 4, 5)),
                 ((1,), matrices, last), ((1, True), matrices, last), ((1, None), matrices, last),
                 (first, matrices, (3, "4")), (first, matrices, (3, False)), (first, (matrices[0], ()), last),
                 (first, (matrices[0], ((1, 1), (0,))), last), (first, (matrices[0], ((1, 1),)), last),
                 (first, (matrices[0], ((1, 1), (0, 1), (0, 0))), last), (first, (matrices[0], [(1, 1), (0, 1)]), last),
                 (first, (matrices[0], ((1, 1), [0, 1])), last), (first, (matrices[0], ((1, 1), (0, True))), last),
                 (first, (matrices[0], ((1, 1), (0, 0.5))), last), (first, (1, 2), last), (first, None, last),
                 ((), ((), ()), (1,)), ((1,), ((), ()), (1,)), ((), (((),), ()), ())]
        for value in wrong:
            self.refused("InvalidMachine", [value], machine_value, value, ())
            self.refused("InvalidMachine", [value], machine_value, value, "word")

    def test_wrong_words(self):
        machine = ((1,), (ONE, ONE, ONE), (1,))
        wrong = [value for value in STRANGE if value != ()]
        wrong += [(3,), (0, 1, 3), (-1,), (True,), (0, False), (None,), ("1",), [0], [0, 1], "01", 1, (1.0,), ((0,),)]
        for word in wrong:
            self.refused("InvalidFigures", [word], machine_value, machine, word)
        for word in [(0,), (1, 2)]:
            self.refused("InvalidFigures", [word], machine_value, ((1,), (), (1,)), word)
        self.assertEqual(machine_value(((1,), (), (1,)), ()), Ratio(1))


class ResiduesTest(Case):
    def test_beside_exact_ranks(self):
        chance = random.Random(6)
        for at in range(200):
            many, width = chance.randint(1, 5), chance.randint(1, 5)
            rows = [[chance.randint(-1, 1) * chance.choice([1, 1, 30]) for _ in range(width)] for _ in range(many)]
            for span in [Integers(), *[Residues(prime) for prime in PRIMES]]:
                took = [span.take(row) for row in rows]
                self.assertEqual(took, [rank_of(rows[:k + 1]) > rank_of(rows[:k]) for k in range(many)])
                full = span.full()
                self.assertEqual(rank_of(rows + [row for _, row in full]), len(full))
                for place, row in full:
                    self.assertEqual([other[place] != 0 for _, other in full].count(True), 1)
                    self.assertNotEqual(row[place], 0)

    def test_a_determinant_that_is_a_multiple_of_the_prime(self):
        for prime in PRIMES:
            self.assertIs(is_regular([[1, 0], [0, prime]]), True)
            self.assertIs(is_regular([[1, 2], [2, 4 + prime]]), True)
        self.assertEqual([is_regular([[1, 2], [2, 4]]), is_regular([]), is_regular([[0]])], [False, True, False])


if __name__ == "__main__":
    unittest.main()
