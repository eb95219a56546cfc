import random
import time
import unittest

from twodivisions.great import GreatNumber, great_ends, great_registers, great_result
from twodivisions.programs import Program

from tests.oracles import with_parts
from tests.samples import STRANGE, Case, play, some_parts, sums, turned, two_modes

HUGE = 10 ** 30


def drawn_pieces(chance, size, times, many=None):
    """Some pieces; the last figure of the last one is not 0."""
    many = chance.randint(0, 4) if many is None else many
    pieces = [(tuple(chance.randrange(size) for _ in range(chance.choice([1, 1, 2, 3, 7, 60]))), times())
              for _ in range(many)]
    if pieces:
        word, last = pieces[-1]
        pieces[-1] = ((*word[:-1], chance.randint(1, size - 1)), last)
    return pieces


def small(chance, size=None, many=None):
    """A great number that can be written out."""
    size = chance.randint(2, 10) if size is None else size
    pieces = drawn_pieces(chance, size, lambda: chance.choice([1, 1, 2, 3, 4]), many)
    return GreatNumber(size, chance.choice([1, -1]), *pieces)


def large(chance, size=None, many=None):
    """A great number that cannot be written out."""
    size = chance.randint(2, 10) if size is None else size
    many = chance.randint(1, 4) if many is None else many
    pieces = drawn_pieces(chance, size, lambda: chance.choice([1, 2, HUGE, HUGE - 7, chance.randint(1, HUGE)]), many)
    return GreatNumber(size, chance.choice([1, -1]), *pieces)


def figures_by_pieces(great):
    return [figure for word, times in great.pieces() for figure in word * times]


def number_by_pieces(great):
    """The number, written out."""
    figures = figures_by_pieces(great)
    return great.number_sign * sum(figure * great.base_size ** at for at, figure in enumerate(figures))


def in_other_pieces(great, chance):
    """The same number: pieces parted in two, words doubled, words turned round."""
    told = []
    for word, times in great.pieces():
        kind = chance.randrange(4)
        turn = chance.randrange(len(word))
        if kind == 0 and times > 1:
            cut = chance.randint(1, times - 1)
            told += [(word, cut), (word, times - cut)]
        elif kind == 1 and times > 2 and len(word) <= 30:
            told += [(word * 2, times // 2), *[(word, 1)] * (times % 2)]
        elif kind == 2 and times > 1 and turn > 0:
            told += [(word[:turn], 1), (word[turn:] + word[:turn], times - 1), (word[turn:], 1)]
        else:
            told.append((word, times))
    return GreatNumber(great.base_size, 1 if great.number_sign == 0 else great.number_sign, *told)


class MadeTest(Case):
    def test_fields(self):
        great = GreatNumber(10, -1, ((1, 2), 3), ((5,), HUGE))
        self.assertEqual([great.base_size, great.number_sign, great.figures], [10, -1, HUGE + 6])
        self.assertEqual(great.pieces(), [((1, 2), 3), ((5,), HUGE)])
        great.pieces().clear()
        self.assertEqual(great.pieces(), [((1, 2), 3), ((5,), HUGE)])
        named = GreatNumber.from_pieces(size=10, sign=-1, pieces=[((1, 2), 3), ((5,), HUGE)])
        self.assertEqual([named == great, named.pieces()], [True, great.pieces()])
        self.assertEqual(GreatNumber(size=3, sign=1).figures, 0)

    def test_no_pieces(self):
        for size in range(2, 11):
            for sign in (1, -1):
                for zero in (GreatNumber(size, sign), GreatNumber.from_pieces(size, sign, ())):
                    self.assertEqual([zero.base_size, zero.number_sign, zero.figures, zero.pieces()], [size, 0, 0, []])
                    self.assertEqual([zero.plain(), zero.remainder(7), zero == GreatNumber(size, 1)], [0, 0, True])
                    self.assertEqual([(-zero).number_sign, abs(zero).number_sign, (zero << 5).pieces()], [0, 0, []])

    def test_a_list_of_pieces_that_is_changed_later(self):
        pieces = [((1,), 2), ((3,), 4)]
        great = GreatNumber.from_pieces(10, 1, pieces)
        pieces.append(((9,), 1))
        pieces[0] = ((7,), 7)
        self.assertEqual([great.pieces(), great.plain()], [[((1,), 2), ((3,), 4)], 333311])

    def test_refused(self):
        for size in [*STRANGE, 1, 0, 11, -10, -2]:
            self.refused("InvalidBase", [size], GreatNumber, size, 0, None)
            self.refused("InvalidBase", [size], GreatNumber.from_pieces, size, 0, (None,))
        for sign in [*STRANGE, 0, 2, -2]:
            self.refused("InvalidSign", [sign], GreatNumber, 10, sign, None)
            self.refused("InvalidSign", [sign], GreatNumber, 10, sign)
            self.refused("InvalidSign", [sign], GreatNumber.from_pieces, 10, sign, [None])
        for value in [*[value for value in STRANGE if not isinstance(value, (list, tuple))], 3, GreatNumber(10, 1)]:
            self.refused("InvalidPieces", [None], GreatNumber.from_pieces, 1, 0, value)
            self.refused("InvalidPieces", [None], GreatNumber.from_pieces, 10, 1, value)

    def test_wrong_pieces(self):
        good = ((1, 0, 2), 5)
        wrong = [*STRANGE, 5, (), ((1,),), ((1,), 2, 3), [(1,), 2], ([1], 2), ((), 1), ((1,) * 61, 1), ((1,), 0), ((1,), -1),
                 ((1,), HUGE + 1), ((1,), True), ((1,), None), ((1,), "2"), ((True,), 1), ((1, False), 1), ((10,), 1),
                 ((-1,), 1), ((None,), 1), (("1",), 1), ("1", 1), (1, 1), ((1,), 1.0)]
        for piece in wrong:
            for at in range(3):
                told = [good, good, good]
                told[at] = piece
                self.refused("InvalidPieces", [at], GreatNumber, 10, 1, *told)
                self.refused("InvalidPieces", [at], GreatNumber.from_pieces, 10, -1, tuple(told))
                self.refused("InvalidPieces", [at], GreatNumber, 10, 1, *told, piece)
        self.refused("InvalidPieces", [0], GreatNumber, 2, 1, ((2,), 1))
        self.assertEqual(GreatNumber(10, 1, ((1,) * 60, HUGE)).figures, 60 * HUGE)

    def test_the_last_figure_is_0(self):
        self.refused("InvalidPieces", [0], GreatNumber, 10, 1, ((0,), 1))
        self.refused("InvalidPieces", [1], GreatNumber, 10, 1, ((0,), 1), ((5, 0), 1))
        self.refused("InvalidPieces", [2], GreatNumber.from_pieces, 10, 1, [((0,), 1), ((5, 0), 1), ((0, 0), HUGE)])
        self.refused("InvalidPieces", [1], GreatNumber, 10, 1, ((1,), 1), ((1,), 0), ((5, 0), 1))
        self.assertEqual(GreatNumber(10, 1, ((0,), 2), ((0, 5), 1)).plain(), 5000)


class FiguresTest(Case):
    def test_beside_numbers_that_are_written_out(self):
        chance = random.Random(1)
        for _ in range(300):
            great = small(chance)
            figures = figures_by_pieces(great)
            self.assertEqual([great[at] for at in range(len(figures))], figures)
            self.assertEqual(great.figures, len(figures))
            self.assertEqual(great.plain(), number_by_pieces(great))
            modulus = chance.choice([1, 2, 10, 97, 10 ** 18, chance.randint(1, 10 ** 18)])
            self.assertEqual(great.remainder(modulus=modulus), number_by_pieces(great) % modulus)

    def test_very_many_figures(self):
        great = GreatNumber(10, 1, ((1, 2, 3), HUGE), ((4,), HUGE), ((5, 6), HUGE))
        places = [0, 1, 3 * HUGE - 1, 3 * HUGE, 4 * HUGE - 1, 4 * HUGE, 4 * HUGE + 1, 6 * HUGE - 1]
        self.assertEqual([great[at] for at in places], [1, 2, 3, 4, 4, 5, 6, 6])
        self.assertEqual(great.remainder(10 ** 18), 321 * (10 ** 18 - 1) // 999)
        # A number leaves by 9 what the sum of its figures leaves, and by 11 what the alternating sum leaves.
        self.assertEqual(great.remainder(9), (6 + 4 + 11) * HUGE % 9)
        self.assertEqual((-great).remainder(9), -(6 + 4 + 11) * HUGE % 9)
        self.assertEqual(GreatNumber(10, 1, ((0, 1), HUGE)).remainder(11), -HUGE % 11)
        self.assertEqual(GreatNumber(2, -1, ((1,), HUGE)).remainder(2 ** 40), 1)

    def test_remainders_by_powers(self):
        chance = random.Random(2)
        for _ in range(100):
            great, modulus = large(chance), chance.randint(1, 10 ** 18)
            total, place = 0, 1
            for word, times in great.pieces():
                value = sum(figure * great.base_size ** at for at, figure in enumerate(word))
                # The sum of a geometric row, found modulo a multiple of the modulus.
                step = great.base_size ** len(word)
                wide = modulus * (step - 1)
                row = (pow(step, times, wide) - 1) % wide // (step - 1)
                total += place * value * row
                place = place * pow(step, times, modulus) % modulus
            self.assertEqual(great.remainder(modulus), great.number_sign * total % modulus)

    def test_wrong_indexes_and_moduli(self):
        great = GreatNumber(10, 1, ((1, 2), 3))
        for at in [*STRANGE, 6, -1, HUGE]:
            self.refused("InvalidNumber", [at], great.__getitem__, at)
        self.refused("InvalidNumber", [0], GreatNumber(10, 1).__getitem__, 0)
        for modulus in [*STRANGE, 0, -1, 10 ** 18 + 1]:
            self.refused("InvalidNumber", [modulus], great.remainder, modulus)
        self.assertEqual([great.remainder(1), great.remainder(10 ** 18)], [0, 212121])
        with self.assertRaises(TypeError):
            list(great)

    def test_more_than_1000_figures(self):
        self.assertEqual(GreatNumber(10, -1, ((9,), 1000)).plain(), 1 - 10 ** 1000)
        for pieces in [[((9,), 1001)], [((9,), HUGE)], [((0,), 1000), ((1,), 1)]]:
            self.refused("LimitExceeded", [1000], GreatNumber(10, 1, *pieces).plain)


class ComparedTest(Case):
    def test_beside_numbers(self):
        chance = random.Random(3)
        told = set()
        for _ in range(2500):
            size = chance.choice([2, 2, 3, 10])
            one, other = (GreatNumber(size, chance.choice([1, -1]), *drawn_pieces(
                chance, size, lambda: chance.choice([1, 2, 3]), chance.randint(0, 2))) for _ in range(2))
            if chance.random() < 0.3:
                other = in_other_pieces(one, chance)
            left, right = number_by_pieces(one), number_by_pieces(other)
            self.assertEqual([one == other, one != other], [left == right, left != right])
            self.assertEqual([one < other, other < one], [left < right, right < left])
            told.add((left > right) - (left < right))
        self.assertEqual(told, {1, 0, -1})

    def test_the_same_number_in_other_pieces(self):
        chance = random.Random(4)
        for _ in range(300):
            one = large(chance)
            other = one
            for _ in range(3):
                other = in_other_pieces(other, chance)
            self.assertEqual([one == other, one < other, other < one], [True, False, False])
            self.assertEqual(one.figures, other.figures)
            for at in [0, one.figures - 1, *(chance.randrange(one.figures) for _ in range(5))]:
                self.assertEqual(one[at], other[at])
            modulus = chance.randint(1, 10 ** 18)
            self.assertEqual(one.remainder(modulus), other.remainder(modulus))

    def test_one_figure_in_the_middle(self):
        word = (1, 2, 3, 4, 5, 6, 7)
        for sign in (1, -1):
            one = GreatNumber(10, sign, (word, HUGE))
            for at, figure in enumerate(word):
                for more in (-1, 1):
                    spot = (*word[:at], figure + more, *word[at + 1:])
                    half = HUGE // 2
                    other = GreatNumber(10, sign, (word, half), (spot, 1), (word, HUGE - half - 1))
                    self.assertFalse(one == other)
                    self.assertIs(one < other, sign * more > 0)
                    self.assertIs(other < one, sign * more < 0)
                    turned_word = word[3:] + word[:3]
                    same = GreatNumber(10, sign, (word[:3], 1), (turned_word, half - 1), (word[3:], 1), (spot, 1),
                                       (word, HUGE - half - 1))
                    self.assertEqual([same == other, same == one], [True, False])

    def test_words_that_are_long_the_same(self):
        # 1 2 1 2 1 and 1 2 1 are repeated: the same for as many figures as can be.
        one = GreatNumber(3, 1, ((1, 2, 1, 2, 1), 3 * HUGE // 5))
        other = GreatNumber(3, 1, ((1, 2, 1), HUGE))
        self.assertEqual([one.figures == other.figures, one == other], [True, False])
        self.assertIs(one < other, one[3 * HUGE - 4] < other[3 * HUGE - 4])
        self.assertTrue(GreatNumber(3, 1, ((1, 2) * 2, HUGE)) == GreatNumber(3, 1, ((1, 2) * 3, HUGE // 3 * 2), ((1, 2), 2)))

    def test_more_figures(self):
        nines, one = GreatNumber(10, 1, ((9,), HUGE)), GreatNumber(10, 1, ((0,), HUGE), ((1,), 1))
        self.assertEqual([nines < one, one < nines, nines == one], [True, False, False])
        self.assertEqual([-nines < -one, -one < -nines], [False, True])
        zero = GreatNumber(10, -1)
        self.assertEqual([zero < nines, nines < zero, -nines < zero, zero < -nines, zero < zero],
                         [True, False, True, False, False])

    def test_unlike_sizes_and_other_values(self):
        one, other = GreatNumber(10, 1, ((1,), 2)), GreatNumber(2, 1, ((1,), 2))
        self.refused("Unlike", [10, 2], one.__lt__, other)
        self.refused("Unlike", [2, 10], other.__lt__, one)
        self.refused("Unlike", [2, 10], GreatNumber(2, 1).__lt__, GreatNumber(10, 1))
        self.assertFalse(one == other)
        self.assertFalse(GreatNumber(2, 1) == GreatNumber(3, 1))
        for value in [*STRANGE, 11]:
            self.assertTrue(one != value)
            self.assertFalse(one == value)
            with self.assertRaises(TypeError):
                one < value


class MovedTest(Case):
    def test_beside_numbers(self):
        chance = random.Random(5)
        for _ in range(200):
            great = small(chance)
            number, pieces = number_by_pieces(great), great.pieces()
            count = chance.randint(0, 20)
            told = [great << count, -great, abs(great), -(-great), abs(-great)]
            wanted = [number * great.base_size ** count, -number, abs(number), number, abs(number)]
            self.assertEqual([number_by_pieces(one) for one in told], wanted)
            self.assertEqual([type(one) for one in told], [GreatNumber] * 5)
            self.assertEqual([great.pieces(), number_by_pieces(great)], [pieces, number])

    def test_the_piece_of_zeros(self):
        great = GreatNumber(7, -1, ((3, 1), HUGE))
        self.assertEqual((great << HUGE).pieces(), [((0,), HUGE), ((3, 1), HUGE)])
        self.assertEqual(((great << 1) << 2).pieces(), [((0,), 2), ((0,), 1), ((3, 1), HUGE)])
        self.assertEqual([(great << 0).pieces(), (great << 0) == great], [great.pieces(), True])
        self.assertEqual([(great << HUGE)[HUGE - 1], (great << HUGE)[HUGE], (great << HUGE).figures], [0, 3, 3 * HUGE])
        self.assertEqual([(-great).pieces(), abs(great).pieces()], [great.pieces()] * 2)
        self.assertEqual([(-great).number_sign, abs(great).number_sign, great.number_sign], [1, 1, -1])

    def test_wrong_counts(self):
        for great in (GreatNumber(7, 1, ((3, 1), 4)), GreatNumber(7, 1)):
            for count in [*STRANGE, -1, HUGE + 1]:
                self.refused("InvalidNumber", [count], great.__lshift__, count)


def ends_rarely():
    """Ends on the numbers whose figures are 1, 2, 1, 2 .. and on no other ones above 0."""
    keep = ((1, 0, 0),)
    one = [(None, 1, keep, "b"), (0, None, keep, None), (None, None, keep, "c")]
    two = [(None, 2, keep, "a"), (0, None, keep, None), (None, None, keep, "c")]
    modes = [("a", "down", one), ("b", "down", two), ("c", "down", [(None, None, keep, "c")])]
    return Program(10, [("r", 4)], modes, [], (1, 0))


class PlayedTest(Case):
    def test_beside_runs(self):
        chance = random.Random(6)
        told = [0, 0]
        for parts in some_parts(250):
            program = Program(*parts)
            for at in range(4):
                great = small(chance, abs(parts[0]), 0 if at == 0 else None)
                run = play(parts, number_by_pieces(great))
                ends = run["how"] != "endless"
                told[ends] += 1
                self.assertIs(great_ends(program=program, great=great), ends)
                modulus = chance.choice([1, 2, 97, 10 ** 18])
                if ends:
                    registers = great_registers(program=program, great=great, modulus=modulus)
                    self.assertEqual(registers, tuple(value % modulus for value in run["registers"][-1]))
                    self.assertEqual(great_result(program=program, great=great, modulus=modulus), run["result"] % modulus)
                else:
                    self.refused("Endless", [great], great_registers, program, great, modulus=modulus)
                    self.refused("Endless", [great], great_result, program, great, modulus=modulus)
        self.assertGreater(min(told), 100)

    def test_known_results(self):
        great = GreatNumber(10, 1, ((1, 2), HUGE), ((7,), 3))
        self.assertEqual(great_result(sums(), great, modulus=10 ** 18), (3 * HUGE + 21) % 10 ** 18)
        self.assertEqual(great_registers(sums(), great, modulus=10 ** 17 - 3), ((3 * HUGE + 21) % (10 ** 17 - 3),))
        # Turned has the figures the other way round.
        other = GreatNumber(10, 1, ((7,), 3), ((2, 1), HUGE))
        self.assertEqual(great_result(turned(), great, modulus=10 ** 18 - 1), other.remainder(10 ** 18 - 1))
        self.assertEqual(great_result(turned(), -great, modulus=10 ** 9 + 7), (-other).remainder(10 ** 9 + 7))
        self.assertIs(great_ends(sums().under("down"), -great), False)
        self.refused("Endless", [-great], great_result, sums().under("down"), -great, modulus=5)

    def test_the_end_depends_on_one_figure(self):
        one = GreatNumber(10, 1, ((1, 2), HUGE))
        self.assertIs(great_ends(ends_rarely(), one), True)
        self.assertEqual(great_registers(ends_rarely(), one, modulus=3), (1,))
        for spot in [(1, 1), (2, 2), (1, 3)]:
            other = GreatNumber(10, 1, ((1, 2), HUGE // 3), (spot, 1), ((1, 2), HUGE // 2))
            self.assertIs(great_ends(ends_rarely(), other), False)
        self.assertIs(great_ends(ends_rarely(), GreatNumber(10, 1, ((1, 2), HUGE), ((1,), 1))), True)
        self.assertIs(great_ends(ends_rarely(), GreatNumber(10, 1, ((1, 2), HUGE), ((2,), 1))), False)

    def test_the_same_number_in_other_pieces(self):
        chance = random.Random(7)
        told = [0, 0]
        for at in range(80):
            size = chance.choice([2, 3, 5, 10])
            parts = with_parts(chance.choice([size, -size]), "abcd"[:1 + at % 4], chance, 1 + at % 3, 0, 10 ** 6)
            if at % 2:
                parts = some_parts(at, size)[-1]
            program, one = Program(*parts), large(chance, size)
            other = in_other_pieces(in_other_pieces(one, chance), chance)
            modulus = chance.randint(1, 10 ** 18)
            ends = great_ends(program, one)
            told[ends] += 1
            self.assertIs(great_ends(program, other), ends)
            if ends:
                self.assertEqual(great_result(program, one, modulus=modulus), great_result(program, other, modulus=modulus))
                self.assertEqual(great_registers(program, one, modulus=modulus),
                                 great_registers(program, other, modulus=modulus))
        self.assertGreater(min(told), 5)

    def test_errors_in_order(self):
        great = -GreatNumber(10, 1, ((5,), 3))
        down = sums().under("down")
        for call in (great_registers, great_result):
            for value in [*STRANGE, 10]:
                self.refused("InvalidProgram", [value], call, value, great, modulus=0)
            self.refused("Unlike", [4, 10], call, two_modes(), great, modulus=0)
            self.refused("Unlike", [10, 2], call, down, GreatNumber(2, 1), modulus=None)
            for modulus in [*STRANGE, 0, -1, 10 ** 18 + 1]:
                self.refused("InvalidNumber", [modulus], call, down, great, modulus=modulus)
            self.refused("Endless", [great], call, down, great, modulus=1)
            with self.assertRaises(TypeError):
                call(sums(), great, 5)
        for value in [*STRANGE, 10]:
            self.refused("InvalidProgram", [value], great_ends, value, great)
        self.refused("Unlike", [4, 10], great_ends, two_modes(), great)
        never = sums().changed(ends=())
        self.refused("Endless", [GreatNumber(10, 1)], great_result, never, GreatNumber(10, -1), modulus=7)


class TimeTest(Case):
    def test_many_long_pieces(self):
        chance = random.Random(8)
        for base in (10, -10):
            program = Program(*with_parts(base, "abcd", chance, 3, 0, 10 ** 6))
            pieces = [(tuple(chance.randint(1, 9) for _ in range(60)), chance.randint(HUGE // 2, HUGE)) for _ in range(40)]
            great, other = GreatNumber(10, -1, *pieces), GreatNumber.from_pieces(10, -1, list(pieces))
            start = time.perf_counter()
            self.assertTrue(great == other)
            self.assertTrue(great_ends(program, great))
            great_result(program, great, modulus=10 ** 18)
            great.remainder(10 ** 18)
            self.assertLess(time.perf_counter() - start, 2)


if __name__ == "__main__":
    unittest.main()
