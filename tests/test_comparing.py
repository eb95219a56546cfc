import random
import unittest

from twodivisions.comparing import figure_bound, parted, require_alike
from twodivisions.programs import Program

from tests.oracles import changed_parts, other_names, pairs_by_words, with_parts
from tests.samples import (
    STRANGE, Case, figures_in, numbers_up_to, play, some_parts, sums, turned, two_modes,
)

FIGURES = {2: 6, 3: 4, 4: 3, 5: 3, 10: 3}
SIZES = [2, 2, 2, 3, 3, 4, 5]
TOTAL = ((1, 1, 0),)


def couples():
    """Tuples of the parts of two programs with the same size, the one often the other with a change."""
    chance = random.Random(31)
    for at in range(140):
        size = SIZES[at % len(SIZES)] if at % 35 != 30 else 10
        one = with_parts(chance.choice([size, -size]), "abcd"[:1 + at % 4], chance, 1 + at % 3, at % 2)
        if at % 5 == 4:
            one = some_parts(at % 7 + 1, size)[-1]
        other = one
        for _ in range(at % 4):
            other = changed_parts(other, chance)
        if at % 7 == 3:
            other = other_names(other)
        yield one, other


def is_meant(number, sign, modulus, remainder):
    """Whether a number is meant."""
    return (sign is None or (number >= 0) == (sign == 1)) and (number - remainder) % modulus == 0


def figures_by_runs(one, other, results, sign, modulus, remainder):
    """The fewest figures of the numbers that are tried and part two programs, or None."""
    for number, left, right in results:
        if left != right and is_meant(number, sign, modulus, remainder):
            return figures_in(number, abs(one[0]))
    return None


def results_of(one, other):
    """The results of both programs on all numbers with few figures."""
    numbers = numbers_up_to(FIGURES[abs(one[0])], abs(one[0]))
    return [(number, play(one, number)["result"], play(other, number)["result"]) for number in numbers]


def counter(base=2):
    """A program with the result 0, but for numbers with 12, 24 .. figures, and one with 0 for all."""
    turn = [(0, 1, 0, 0, 0), (-1, -1, 0, 0, 0)]
    rows = [(None, None, (*turn, (0, 0, 0, 0, 0)), "bcda"[at]) for at in range(3)]
    rows.append((None, None, (*turn, (-1, 1, 0, 0, 1)), "a"))
    modes = [("abcd"[at], "zero", [row]) for at, row in enumerate(rows)]
    many = base, [("x", 1), ("y", 0), ("out", 0)], modes, [0], (0, 0, 1, 0)
    none = base, [("r", 3)], [("m", "zero", [(None, None, ((1, 0, 0),), "m")])], [0], (0, 0)
    return many, none


class PartedTest(Case):
    def look_at(self, one, other, results, sign, modulus, remainder):
        meant = {"sign": sign, "modulus": modulus, "remainder": remainder}
        # What is left out stands for all numbers.
        plain = {"sign": None, "modulus": 1, "remainder": 0}
        meant = {name: value for name, value in meant.items() if value != plain[name]}
        number = parted(Program(*one), Program(*other), **meant)
        wanted = figures_by_runs(one, other, results, sign, modulus, remainder)
        if number is None:
            self.assertIsNone(wanted)
            return None
        self.assertTrue(is_meant(number, sign, modulus, remainder))
        self.assertNotEqual(play(one, number)["result"], play(other, number)["result"])
        size = abs(one[0])
        if wanted is None:
            self.assertGreater(figures_in(number, size), FIGURES[size])
        else:
            self.assertEqual(figures_in(number, size), wanted)
        self.assertLessEqual(figures_in(number, size), max(figure_bound(Program(*one), Program(*other)), wanted or 0))
        return number

    def test_beside_runs(self):
        told = set()
        for one, other in couples():
            results = results_of(one, other)
            for sign in (None, 1, -1):
                number = self.look_at(one, other, results, sign, 1, 0)
                told.add((number is None, None if number is None else figures_in(number, abs(one[0]))))
        self.assertLessEqual({(True, None), (False, 0), (False, 1), (False, 2)}, told)

    def test_moduli_and_remainders(self):
        for at, (one, other) in enumerate(couples()):
            if at % 2 == 0:
                results = results_of(one, other)
                for modulus in range(1, 7):
                    for remainder in range(modulus):
                        self.look_at(one, other, results, [None, 1, -1][at % 3], modulus, remainder)

    def test_exchanged(self):
        for one, other in couples():
            told = [parted(Program(*one), Program(*other)), parted(Program(*other), Program(*one))]
            if told[0] is None:
                self.assertIsNone(told[1])
            else:
                self.assertEqual(figures_in(told[0], abs(one[0])), figures_in(told[1], abs(one[0])))

    def test_other_names_registers_and_orders_are_alike(self):
        for one, _ in couples():
            self.assertIsNone(parted(Program(*one), Program(*one)))
            self.assertIsNone(parted(Program(*one), Program(*other_names(one))))
            self.assertIsNone(parted(Program(*other_names(one)), Program(*one), sign=-1, modulus=3, remainder=2))

    def test_a_changed_result(self):
        for one, _ in couples():
            base, registers, modes, ends, result = one
            other = base, registers, modes, ends, (*result[:-1], result[-1] + 1)
            number = parted(Program(*one), Program(*other))
            if number is None:
                self.assertEqual([n for n in range(-99, 99) if play(one, n)["how"] != "endless"], [])
            else:
                self.assertNotEqual(play(one, number)["how"], "endless")

    def test_long_numbers(self):
        many, none = counter()
        for number in range(1, 2 ** 11):
            self.assertEqual(play(many, number)["result"], 0)
        for sign in (None, 1, -1):
            number = parted(Program(*many), Program(*none), sign=sign)
            self.assertEqual(figures_in(number, 2), 12)
            self.assertNotEqual(play(many, number)["result"], 0)
        for modulus in range(1, 7):
            for remainder in range(modulus):
                number = parted(Program(*many), Program(*none), modulus=modulus, remainder=remainder)
                self.assertEqual([figures_in(number, 2), (number - remainder) % modulus], [12, 0])

    def test_only_numbers_that_are_no_multiples_part_them(self):
        # The result is the remainder of the lowest figure, or twice this.
        rows = [(None, None, ((0, 1, 0), ), None)]
        one = Program(10, [("r", 0)], [("m", "zero", rows)], [], (1, 0))
        twice = one.changed(result=(2, 0))
        self.assertIn(parted(one, twice), [*range(-9, 0), *range(1, 10)])
        self.assertIsNone(parted(one.changed(base=6), twice.changed(base=6), modulus=6))
        for remainder in range(1, 6):
            number = parted(one.changed(base=6), twice.changed(base=6), sign=-1, modulus=6, remainder=remainder)
            self.assertEqual(number, remainder - 6)
        self.assertIsNone(parted(one, one.changed(result=(1, 0))))

    def test_0_parts_them(self):
        one = sums().changed(ends=[])
        # Only 0 tells whether the run rests on it at once.
        rows = [(0, None, ((1, 0, 7),), None), (None, None, ((1, 0, 0),), None)]
        stops = Program(3, [("r", 0)], [("m", "zero", rows)], [], (1, 0))
        rests = stops.changed(ends=[0])
        self.assertEqual([parted(stops, rests), parted(stops, rests, sign=1), parted(one, sums(), sign=1)], [0, 0, 0])
        self.assertEqual([parted(stops, rests, modulus=modulus) for modulus in range(1, 7)], [0] * 6)
        self.assertEqual([parted(stops, rests, modulus=5, remainder=at) for at in range(1, 5)], [None] * 4)
        self.assertIsNone(parted(stops, rests, sign=-1))

    def test_of_the_document(self):
        program = Program(10, [("s", 0)], [("m", "zero", [(None, None, TOTAL, "m")])], [0], (1, 0))
        told = [parted(program, program.under("down"), sign=1), parted(program, program.under("down")) in range(-9, 0)]
        self.assertEqual(told, [None, True])

    def test_endless_for_one_only(self):
        number = parted(sums(), sums().under("down"))
        self.assertIn(number, range(-9, 0))
        self.assertIsNone(parted(sums(), sums().under("down"), sign=1))
        self.assertIsNone(parted(sums().changed(ends=()), sums().under("down").changed(ends=()), sign=1))

    def test_rules_that_are_alike(self):
        for _, (one, _) in zip(range(60), couples()):
            above, below = abs(one[0]), -abs(one[0])
            program = Program(*one)
            over = program.changed(base=above)
            self.assertIsNone(parted(over.under("positive"), over.under("down")))
            self.assertIsNone(parted(over.under("zero"), over.under("down"), sign=1))
            self.assertIsNone(parted(over.under("zero"), over.under("up"), sign=-1))
            turning = program.changed(base=below)
            self.assertIsNone(parted(turning.under("positive"), turning.under("up")))

    def test_changes_nothing(self):
        one, other = two_modes(), two_modes().under("zero")
        parted(one, other, sign=-1, modulus=4, remainder=3)
        self.assertEqual([one, other], [two_modes(), two_modes().under("zero")])
        self.assertEqual(parted(one, other), parted(one, other))


class RequireTest(Case):
    def test_beside_parted(self):
        for at, (one, other) in enumerate(couples()):
            meant = {"sign": [None, 1, -1][at % 3], "modulus": 1 + at % 6, "remainder": 0}
            number = parted(Program(*one), Program(*other), **meant)
            if meant["modulus"] == 1:
                del meant["modulus"], meant["remainder"]
            if number is None:
                self.assertIsNone(require_alike(Program(*one), Program(*other), **meant))
            else:
                self.refused("Parted", [number], require_alike, Program(*one), Program(*other), **meant)

    def test_by_name(self):
        self.assertIsNone(require_alike(one=sums(), other=sums()))
        self.assertIsNone(parted(one=sums(), other=sums()))
        self.assertEqual(figure_bound(one=sums(), other=sums()), 3)


class BoundTest(Case):
    def test_beside_pairs(self):
        for one, other in couples():
            pairs = max(len(pairs_by_words(one, other, sign)) for sign in (1, -1))
            wanted = pairs * (len(one[1]) + len(other[1]) + 1)
            self.assertEqual(figure_bound(Program(*one), Program(*other)), wanted)

    def test_the_signs_have_unlike_numbers_of_pairs(self):
        rows = [(1, None, ((1, 0, 0),), "n"), (None, None, ((1, 0, 0),), "m")]
        modes = [("m", "zero", rows), ("n", "zero", rows)]
        one = Program(10, [("a", 1), ("b", 2)], [("m", "zero", [(None, None, ((1, 0, 0, 0),) * 2, "m")])], [], (1, 0, 0))
        other = Program(10, [("r", 0)], modes, [], (1, 0))
        self.assertEqual(figure_bound(one, other), 2 * 4)
        rows = [(-1, None, ((1, 0, 0),), "n"), (None, None, ((1, 0, 0),), "m")]
        other = Program(10, [("r", 0)], [("m", "zero", rows), ("n", "zero", rows)], [], (1, 0))
        self.assertEqual(figure_bound(one, other), 2 * 4)


class RefusedTest(Case):
    def test_programs(self):
        for call in (parted, require_alike, figure_bound):
            for value in [*STRANGE, 10, "sums", Program]:
                self.refused("InvalidProgram", [value], call, value, sums())
                self.refused("InvalidProgram", [value], call, sums(), value)
                self.refused("InvalidProgram", [value], call, value, "other")
                self.refused("InvalidProgram", [value], call, two_modes(), value)
            self.refused("Unlike", [10, 4], call, sums(), two_modes())
            self.refused("Unlike", [4, 10], call, two_modes(), turned())

    def test_what_is_meant(self):
        for call in (parted, require_alike):
            for value in [*STRANGE[1:], 0, 2, -2]:
                self.refused("InvalidSign", [value], call, sums(), sums(), sign=value)
                self.refused("InvalidSign", [value], call, sums(), sums(), sign=value, modulus=0, remainder=-1)
            for value in [*STRANGE, 0, 7, -1, 10 ** 30]:
                self.refused("InvalidNumber", [value], call, sums(), sums(), modulus=value)
                self.refused("InvalidNumber", [value], call, sums(), sums(), modulus=value, remainder=99)
            for modulus in range(1, 7):
                for value in [*STRANGE, -1, modulus, modulus + 1]:
                    named = {"modulus": modulus, "remainder": value}
                    self.refused("InvalidNumber", [value], call, sums(), sums(), **named)
            self.refused("InvalidProgram", [3], call, 3, sums(), sign=0, modulus=0)
            self.refused("Unlike", [10, 4], call, sums(), two_modes(), sign=0, modulus=0)

    def test_behind_the_star_by_name_only(self):
        for call in (parted, require_alike):
            with self.assertRaises(TypeError):
                call(sums(), sums(), 1)


if __name__ == "__main__":
    unittest.main()
