import itertools
import random
import time
import unittest

from twodivisions import least
from twodivisions.least import LeastMachine, differing_word, word_value
from twodivisions.linear import PRIMES, determinant, machine_value
from twodivisions.programs import Program
from twodivisions.ratios import Ratio

from tests.oracles import other_names, with_parts
from tests.samples import RULES, STRANGE, Case, play, rank_of, some_parts, sums, turned, two_modes

FIGURES = {2: 5, 3: 3, 4: 3, 5: 2, 10: 2}


def several(many=48):
    """Parts of programs with one to three registers and one to four modes, many with few entries."""
    chance = random.Random(61)
    for at in range(many):
        size = [2, 3, 2, 4, 10, 5][at % 6]
        base = chance.choice([size, -size])
        if at % 5 == 0:
            yield some_parts(at % 9 + 1, size)[-1]
        elif at % 5 == 1:
            yield other_names(with_parts(base, "abcd"[:1 + at % 4], chance, 1 + at % 3, at % 2, 3))
        else:
            result = (0,) * (2 + at % 3) if at % 11 == 2 else None
            yield with_parts(base, "abcd"[:1 + at % 4], chance, 1 + at % 3, at % 2, 1, result)


def words_of(size, most):
    """All words of at most so many figures, those with fewer first."""
    return [word for many in range(most + 1) for word in itertools.product(range(size), repeat=many)]


def long_words(size, chance):
    """Some long words, the last figure 0 or not."""
    return [tuple(chance.randrange(size) for _ in range(chance.randint(6, 25))) for _ in range(6)]


def value_by_run(parts, sign, word):
    """The value of a word, by a run."""
    if word != () and word[-1] == 0:
        return 0
    result = play(parts, sign * sum(figure * abs(parts[0]) ** at for at, figure in enumerate(word)))["result"]
    return 0 if result is None else result


def ends_nowhere():
    return sums().changed(ends=())


def some_machines():
    """Tuples (parts, sign, program, least machine)."""
    for at, parts in enumerate(several()):
        sign = -1 if at % 2 else 1
        yield parts, sign, Program(*parts), LeastMachine(Program(*parts), sign)


class WordValueTest(Case):
    def test_beside_runs(self):
        chance = random.Random(1)
        zeros = 0
        for parts in several():
            size = abs(parts[0])
            for sign in (1, -1):
                for word in [*words_of(size, FIGURES[size] - 1), *long_words(size, chance)]:
                    value = word_value(program=Program(*parts), sign=sign, word=word)
                    self.assertIs(type(value), int)
                    self.assertEqual(value, value_by_run(parts, sign, word))
                    zeros += word != () and word[-1] != 0 and value == 0
        self.assertGreater(zeros, 50)

    def test_known_values(self):
        self.assertEqual([word_value(turned(), 1, (3, 2, 1)), word_value(turned(), -1, (0, 2, 1))], [321, -21])
        self.assertEqual([word_value(turned(), 1, (3, 2, 0)), word_value(turned(), 1, (0,))], [0, 0])
        self.assertEqual([word_value(sums().under("down"), -1, (3,)), word_value(ends_nowhere(), 1, (3,))], [0, 0])
        ends = sums().changed(result=(1, 5))
        self.assertEqual([word_value(ends, sign, ()) for sign in (1, -1)], [5, 5])
        self.assertEqual([word_value(ends_nowhere(), sign, ()) for sign in (1, -1)], [0, 0])

    def test_refused(self):
        for value in [*STRANGE, 10]:
            self.refused("InvalidProgram", [value], word_value, value, 0, "word")
            self.refused("InvalidSign", [value], word_value, sums(), value, None)
        for sign in (0, 2, -2):
            self.refused("InvalidSign", [sign], word_value, sums(), sign, (1,))
        wrong = [value for value in STRANGE if value != ()]
        wrong += [(10,), (0, 1, 10), (-1,), (True,), (0, False), (None,), ("1",), [0], [0, 1], "01", 1, ((0,),)]
        machine = LeastMachine(sums(), 1)
        for word in wrong:
            self.refused("InvalidFigures", [word], word_value, sums(), 1, word)
            self.refused("InvalidFigures", [word], machine, word)
        self.refused("InvalidFigures", [(4,)], word_value, two_modes(), 1, (4,))


class FitsTest(Case):
    def test_the_machine_has_the_value_of_every_word(self):
        chance = random.Random(2)
        for parts, sign, program, told in some_machines():
            size = abs(parts[0])
            machine = told.machine()
            first, matrices, last = machine
            self.assertEqual([len(first), len(last), len(matrices)], [told.entries, told.entries, size])
            for entry in [*first, *last, *(entry for matrix in matrices for row in matrix for entry in row)]:
                self.assertIs(type(entry), Ratio)
            for word in [*words_of(size, FIGURES[size]), *long_words(size, chance)]:
                value = value_by_run(parts, sign, word)
                self.assertEqual(machine_value(machine, word), Ratio(value))
                self.assertEqual(told(word=word), value)
                self.assertIs(type(told(word)), int)
            self.assertIsNone(differing_word(program, sign, machine))

    def test_heads_and_tails(self):
        for parts, sign, program, told in some_machines():
            heads, tails = told.heads(), told.tails()
            self.assertEqual([type(heads), type(tails)], [tuple, tuple])
            self.assertEqual([len(heads), len(tails)], [told.entries, told.entries])
            table = [[value_by_run(parts, sign, head + tail) for tail in tails] for head in heads]
            self.assertNotEqual(determinant(table), 0)
            self.assertIs(LeastMachine.check_heads(program, sign, heads, tails), True)

    def test_no_fewer_entries_by_ranks_of_tables(self):
        exact = 0
        for parts, sign, _, told in some_machines():
            size = abs(parts[0])
            words = words_of(size, {2: 4, 3: 2, 4: 2}.get(size, 1))
            rank = rank_of([[value_by_run(parts, sign, head + tail) for tail in words] for head in words])
            self.assertLessEqual(rank, told.entries)
            exact += rank == told.entries
        self.assertGreater(exact, 12)

    def test_known_numbers_of_entries(self):
        # Turned is N and the place it has reached; sums needs the sum, 1, and that the last figure is not 0.
        self.assertEqual([LeastMachine(program=turned(), sign=1).entries, LeastMachine(sums(), -1).entries], [3, 3])
        for program in (sums().changed(result=(0, 0)), ends_nowhere()):
            for sign in (1, -1):
                told = LeastMachine(program, sign)
                self.assertEqual([told.entries, told.heads(), told.tails()], [0, (), ()])
                self.assertEqual([told.machine(), told((3, 1))], [((), ((),) * 10, ()), 0])
                self.assertIsNone(differing_word(program, sign, told.machine()))
        down = LeastMachine(sums().under("down").changed(result=(1, 4)), -1)
        self.assertEqual([down.entries, down(()), down((3,))], [1, 4, 0])

    def test_fewer_entries_than_registers(self):
        keep = ((1, 0, 0, 0, 0), (0, 1, 0, 0, 0), (0, 0, 1, 0, 0))
        modes = [(name, "zero", [(None, None, keep, then)]) for name, then in zip("abcd", "bcda")]
        program = Program(3, [("r", 2), ("s", 3), ("t", 4)], modes, [0], (1, 1, 1, 0))
        # 9 at each word that does not end with 0, and at the empty word.
        self.assertEqual([LeastMachine(program, sign).entries for sign in (1, -1)], [2, 2])

    def test_three_times_the_result(self):
        for parts, sign, program, told in some_machines():
            thrice = LeastMachine(program.changed(result=tuple(3 * n for n in parts[4])), sign)
            self.assertEqual(thrice.entries, told.entries)

    def test_told_again(self):
        for _, sign, program, told in some_machines():
            again = LeastMachine(program, sign)
            for one in (told, again):
                self.assertEqual([one.heads(), one.tails()], [told.heads(), told.tails()])
                self.assertEqual(one.machine(), told.machine())

    def test_unlucky_primes(self):
        # Small primes are factors of many things; then greater ones, or integers, must find the machine.
        chosen = [(2, 3), (2, 3, 5, 7, 101), (), (10007,)]
        try:
            for at, (_, sign, program, told) in enumerate(some_machines()):
                least.PRIMES = chosen[at % 4]
                other = LeastMachine(program, sign)
                self.assertEqual(other.entries, told.entries)
                self.assertIsNone(differing_word(program, sign, other.machine()))
                self.assertTrue(LeastMachine.check_heads(program, sign, other.heads(), other.tails()))
        finally:
            least.PRIMES = PRIMES

    def test_sizes_signs_and_rules(self):
        for base in [*range(2, 11), *range(-10, -1)]:
            rows = [(None, None, ((base, 1, 0),), "m")]
            for rule in RULES:
                program = Program(base, [("r", 1)], [("m", rule, rows)], [-1, 0, 1], (1, 2))
                for sign in (1, -1):
                    told = LeastMachine(program, sign)
                    self.assertIsNone(differing_word(program, sign, told.machine()))
                    self.assertTrue(LeastMachine.check_heads(program, sign, told.heads(), told.tails()))

    def test_refused(self):
        for value in [*STRANGE, 10]:
            self.refused("InvalidProgram", [value], LeastMachine, value, 0)
            self.refused("InvalidSign", [value], LeastMachine, sums(), value)
        for sign in (0, 2, -2):
            self.refused("InvalidSign", [sign], LeastMachine, sums(), sign)

    def test_unequal_to_other_values(self):
        told = LeastMachine(sums(), 1)
        for value in [*STRANGE, sums()]:
            self.assertTrue(told != value)
            self.assertFalse(told == value)


class CheckHeadsTest(Case):
    def test_other_orders_left_out_and_twice(self):
        chance = random.Random(3)
        for _, sign, program, told in some_machines():
            heads, tails = told.heads(), told.tails()
            check = LeastMachine.check_heads
            self.assertIs(check(program, sign, heads=heads[::-1], tails=tails), True)
            self.assertIs(check(program=program, sign=sign, heads=heads, tails=tails[::-1]), True)
            self.assertIs(check(program, sign, (), ()), True)
            if told.entries > 0:
                self.assertIs(check(program, sign, heads[1:], tails), False)
                self.assertIs(check(program, sign, heads, tails[:-1]), False)
                self.assertIs(check(program, sign, (*heads, heads[0]), (*tails, tails[0])), False)
                # One more than there are entries is never right.
                drawn = tuple(chance.randrange(program.size) for _ in range(5))
                self.assertIs(check(program, sign, (*heads, drawn), (*tails, drawn[::-1])), False)
            if told.entries > 1:
                self.assertIs(check(program, sign, (heads[1], *heads[1:]), tails), False)
                self.assertIs(check(program, sign, heads, (*tails[:-1], tails[0])), False)

    def test_drawn_words(self):
        chance = random.Random(4)
        told = [0, 0]
        for parts, sign, program, _ in some_machines():
            for many in (1, 1, 2, 3):
                draws = [tuple(tuple(chance.randrange(program.size) for _ in range(chance.randint(0, 3)))
                               for _ in range(many)) for _ in range(2)]
                table = [[value_by_run(parts, sign, head + tail) for tail in draws[1]] for head in draws[0]]
                wanted = determinant(table) != 0
                told[wanted] += 1
                self.assertIs(LeastMachine.check_heads(program, sign, *draws), wanted)
        self.assertGreater(min(told), 20)

    def test_any_values(self):
        told = LeastMachine(two_modes(), 1)
        heads, tails = told.heads(), told.tails()
        for value in [value for value in STRANGE if value != ()]:
            self.assertIs(LeastMachine.check_heads(two_modes(), 1, value, tails), False)
            self.assertIs(LeastMachine.check_heads(two_modes(), 1, heads, value), False)
            self.assertIs(LeastMachine.check_heads(two_modes(), 1, value, value), False)
        for wrong in [list(heads), (*heads[1:], list(heads[0])), (*heads[1:], (4,)), (*heads[1:], (-1,)),
                      (*heads[1:], (True,)), (*heads[1:], None), ((0,),) * len(heads)]:
            self.assertIs(LeastMachine.check_heads(two_modes(), 1, wrong, tails), False)
        self.assertIs(LeastMachine.check_heads(two_modes(), 1, ((True,),), ((1,),)), False)
        self.assertIs(told.check_heads(two_modes(), 1, heads, tails), True)

    def test_refused(self):
        for value in [*STRANGE, 10]:
            self.refused("InvalidProgram", [value], LeastMachine.check_heads, value, 0, None, None)
            self.refused("InvalidSign", [value], LeastMachine.check_heads, sums(), value, (), ())


def shortest_by_words(parts, sign, machine, most):
    """The fewest figures of the words at which the values differ, or None."""
    for word in words_of(abs(parts[0]), most):
        if machine_value(machine, word) != Ratio(value_by_run(parts, sign, word)):
            return len(word)
    return None


def in_other_sums(machine, chance):
    """The machine with an entry added to another one, so that all values stay."""
    first, matrices, last = machine
    at, beside = chance.sample(range(len(first)), 2)
    factor = Ratio(chance.randint(1, 5), chance.choice([1, 2, 3]))

    def added(row):
        return tuple(n + row[at] * factor if place == beside else n for place, n in enumerate(row))

    def taken(column):
        return [n - column[beside] * factor if place == at else n for place, n in enumerate(column)]

    told = []
    for matrix in matrices:
        rows = [added(row) for row in matrix]
        columns = [taken(column) for column in zip(*rows)]
        told.append(tuple(zip(*columns)))
    return added(first), tuple(told), tuple(taken(last))


def with_idle_entry(machine, chance):
    """The machine with an entry more that has no part in the values."""
    first, matrices, last = machine
    zeros = (0,) * len(first)
    told = tuple((*((*row, chance.randint(-3, 3)) for row in matrix), (*zeros, 2)) for matrix in matrices)
    return (*first, 7), told, (*last, 0)


class DifferingWordTest(Case):
    def test_machines_with_the_same_values(self):
        chance = random.Random(5)
        for _, sign, program, told in some_machines():
            machine = told.machine()
            self.assertIsNone(differing_word(program, sign, with_idle_entry(machine, chance)))
            if told.entries > 1:
                for _ in range(4):
                    machine = in_other_sums(machine, chance)
                self.assertIsNone(differing_word(program=program, sign=sign, machine=machine))
                self.assertIsNone(differing_word(program, sign, with_idle_entry(machine, chance)))

    def test_one_entry_changed(self):
        chance = random.Random(6)
        told_lengths = set()
        for parts, sign, program, told in some_machines():
            size = abs(parts[0])
            for _ in range(4 if told.entries > 0 else 0):
                machine = self.with_a_change(told.machine(), chance)
                word = differing_word(program, sign, machine)
                wanted = shortest_by_words(parts, sign, machine, FIGURES[size] - 1)
                if wanted is not None:
                    self.assertEqual(len(word), wanted)
                if word is not None:
                    self.assertIs(type(word), tuple)
                    self.assertNotEqual(machine_value(machine, word), Ratio(value_by_run(parts, sign, word)))
                    self.assertGreaterEqual(len(word), FIGURES[size] if wanted is None else wanted)
                    told_lengths.add(len(word))
        self.assertLessEqual({0, 1, 2, 3}, told_lengths)

    def with_a_change(self, machine, chance):
        first, matrices, last = machine
        at = chance.randrange(len(first))
        more = chance.choice([1, -1, Ratio(1, 3), 10 ** 9])
        kind = chance.randrange(6)
        if kind == 0:
            return (*first[:at], first[at] + more, *first[at + 1:]), matrices, last
        if kind == 1:
            return first, matrices, (*last[:at], last[at] + more, *last[at + 1:])
        figure, beside = chance.randrange(len(matrices)), chance.randrange(len(first))
        rows = [list(row) for row in matrices[figure]]
        rows[at][beside] = rows[at][beside] + more
        told = tuple(tuple(row) for row in rows)
        return first, (*matrices[:figure], told, *matrices[figure + 1:]), last

    def test_machines_of_other_programs(self):
        for parts, sign, program, told in some_machines():
            other = program.changed(result=(*parts[4][:-1], parts[4][-1] + 1))
            word = differing_word(other, sign, told.machine())
            wanted = shortest_by_words((*parts[:4], other.result), sign, told.machine(), 2)
            self.assertEqual(None if word is None else len(word), wanted)

    def test_no_entries(self):
        nothing = ((), ((),) * 10, ())
        self.assertEqual(differing_word(sums().changed(result=(0, 1)), 1, nothing), ())
        word = differing_word(sums(), 1, nothing)
        self.assertEqual([len(word), word[0] > 0], [1, True])
        self.assertIsNone(differing_word(ends_nowhere(), 1, nothing))

    def test_refused(self):
        good = LeastMachine(sums(), 1).machine()
        first, matrices, last = good
        self.assertIsNone(differing_word(sums(), 1, good))
        for value in [*STRANGE, 10]:
            self.refused("InvalidProgram", [value], differing_word, value, 0, None)
            self.refused("InvalidSign", [value], differing_word, sums(), value, None)
            self.refused("InvalidMachine", [value], differing_word, sums(), 1, value)
        wrong = [(first, matrices[:-1], last), (first, (*matrices, matrices[0]), last), (first, (), last), good[:2],
                 (first, matrices, last[:-1]), (first[:-1], matrices, last), (first, list(matrices), last),
                 ((*first[:-1], True), matrices, last), (first, (*matrices[:-1], matrices[0][:-1]), last), list(good)]
        for machine in wrong:
            self.refused("InvalidMachine", [machine], differing_word, sums(), 1, machine)
        self.refused("InvalidMachine", [good], differing_word, two_modes(), 1, good)


class TimeTest(Case):
    def test_four_modes_three_registers(self):
        chance = random.Random(7)
        for base in (10, -10, -9, -2):
            for small in (3, 10 ** 6):
                program = Program(*with_parts(base, "abcd", chance, 3, 1, small))
                start = time.perf_counter()
                told = LeastMachine(program, -1)
                self.assertTrue(LeastMachine.check_heads(program, -1, told.heads(), told.tails()))
                self.assertIsNone(differing_word(program, -1, told.machine()))
                self.assertLess(time.perf_counter() - start, 5)


if __name__ == "__main__":
    unittest.main()
