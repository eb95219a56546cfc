import itertools
import random
import time
import unittest

from twodivisions.comparing import parted
from twodivisions.corrections import Corrections, check_corrections
from twodivisions.papers import agreement_paper
from twodivisions.programs import Program

from tests.oracles import bent, is_right_agreement, with_parts
from tests.samples import RULES, STRANGE, Case, figures_in, numbers_up_to, play, sums, two_modes

ROWS = [(None, None, ((1, 1, 0),), "m")]
DOC = (10, [("s", 0)], [("m", "zero", ROWS), ("n", "zero", ROWS)], [0], (1, 0))
FIGURES = {2: 6, 3: 4, 4: 3}


def several(many=40):
    """Tuples of the parts of a program and a rule."""
    chance = random.Random(9)
    for at in range(many):
        size = [2, 3, 4][at % 3]
        names = ["first", "b", "a", "last"][:1 + at % 4]
        parts = with_parts(chance.choice([size, -size]), names, chance, 1 + at % 3, at % 2, 1)
        yield parts, chance.choice(RULES)


def moved_parts(parts, rule, kept):
    """The parts of the moved program."""
    base, registers, modes, ends, result = parts
    modes = [(name, own if name in kept else rule, rows) for name, own, rows in modes]
    return base, registers, modes, ends, result


def sets_in_order(parts):
    """All sets of modes in the told order."""
    modes = [mode[0] for mode in parts[2]]
    return [kept for many in range(len(modes) + 1) for kept in itertools.combinations(modes, many)]


def least_by_words(sets, good):
    """The least ones of the good sets."""
    return [kept for kept in sets
            if good[kept] and not any(good[less] for less in sets if set(less) < set(kept))]


def right_by_words(parts, rule, paper):
    """What a correction paper shows, or None."""
    sets = sets_in_order(parts)
    if type(paper) is not tuple or len(paper) != len(sets):
        return None
    good = {}
    for row in paper:
        if type(row) is not tuple or len(row) != 3:
            return None
        kept, number, agreement = row
        if type(kept) is not tuple or kept not in sets or kept in good:
            return None
        moved = moved_parts(parts, rule, kept)
        if number is None and not is_right_agreement(parts, moved, agreement):
            return None
        if number is not None and (type(number) is not int or agreement is not None):
            return None
        if number is not None and play(parts, number)["result"] == play(moved, number)["result"]:
            return None
        good[kept] = number is None
    return least_by_words(sets, good)


class MovedTest(Case):
    def test_beside_parts(self):
        for parts, rule in several():
            corrections = Corrections(Program(*parts), rule)
            for kept in sets_in_order(parts):
                told = corrections.moved(kept=kept)
                self.assertEqual(told, Program(*moved_parts(parts, rule, kept)))

    def test_sets_in_any_order_and_repeated(self):
        corrections = Corrections(program=two_modes(), rule="positive")
        for kept in [("odd", "even"), ["even", "odd"], ["odd", "odd", "even", "odd"], ("even", "even", "odd")]:
            self.assertEqual(corrections.moved(kept), two_modes())
            self.assertIsNone(corrections.parting(kept))
        for kept in [("odd",), ["odd"], ["odd", "odd"]]:
            self.assertEqual(corrections.moved(kept), two_modes().with_rule("even", "positive"))
            self.assertEqual(corrections.parting(kept), corrections.parting(("odd",)))
        self.assertEqual(corrections.moved([]), two_modes().under("positive"))

    def test_the_argument_stays(self):
        kept = ["odd", "odd"]
        corrections = Corrections(two_modes(), "up")
        corrections.moved(kept)
        corrections.parting(kept)
        self.assertEqual(kept, ["odd", "odd"])

    def test_refused(self):
        corrections = Corrections(two_modes(), "up")
        for call in (corrections.moved, corrections.parting):
            for value in STRANGE:
                if not isinstance(value, (list, tuple)):
                    self.refused("UnknownName", [value], call, value)
                if value != "odd":
                    self.refused("UnknownName", [value], call, [value])
                    self.refused("UnknownName", [value], call, ("odd", "even", value, "later"))
            self.refused("UnknownName", ["odds"], call, ["odd", "odds", 3])
            self.refused("UnknownName", ["odd"], call, "odd")


class PartingTest(Case):
    def test_beside_runs(self):
        for parts, rule in several():
            corrections = Corrections(Program(*parts), rule)
            numbers = numbers_up_to(FIGURES[abs(parts[0])], abs(parts[0]))
            own = [play(parts, number)["result"] for number in numbers]
            for kept in sets_in_order(parts):
                moved = moved_parts(parts, rule, kept)
                others = [play(moved, number)["result"] for number in numbers]
                found = [number for number, left, right in zip(numbers, own, others) if left != right]
                told = corrections.parting(kept=kept)
                if found:
                    self.assertEqual(figures_in(told, abs(parts[0])), figures_in(found[0], abs(parts[0])))
                if told is not None:
                    self.assertNotEqual(play(parts, told)["result"], play(moved, told)["result"])


class LeastTest(Case):
    def test_of_the_document(self):
        self.assertEqual(Corrections(Program(*DOC), "down").least(), [("m",)])

    def test_beside_partings(self):
        told = set()
        for parts, rule in several():
            corrections = Corrections(Program(*parts), rule)
            sets = sets_in_order(parts)
            good = {kept: parted(Program(*parts), corrections.moved(kept)) is None for kept in sets}
            self.assertEqual(corrections.least(), least_by_words(sets, good))
            told.add((len(parts[2]), len(corrections.least()), len(corrections.least()[0])))
        self.assertGreater(len(told), 8)

    def test_all_the_rules_are_the_rule(self):
        self.assertEqual(Corrections(two_modes().under("near"), "near").least(), [()])

    def test_a_set_with_more_modes_need_not_be_good(self):
        # The first mode tells with 1 that it rounded down, the second takes 1 away if it did; only both agree.
        one, none, same, less = ((0, 0, 1),), ((0, 0, 0),), ((1, 0, 0),), ((1, 0, -1),)
        first = [(None, 0, none, None), (None, 1, one, "q"), (None, None, none, "q")]
        second = [(None, 0, none, None), (None, 1, less, None), (None, None, same, None)]
        parts = (2, [("a", 0)], [("p", "down", first), ("q", "down", second)], [], (1, 0))
        corrections = Corrections(Program(*parts), "up")
        good = [kept for kept in sets_in_order(parts) if corrections.parting(kept) is None]
        self.assertEqual([good, corrections.least()], [[(), ("p", "q")], [()]])
        self.assertEqual(check_corrections(Program(*parts), "up", corrections.paper()), [()])

    def test_several_least_sets(self):
        # It is enough if one of the two modes rounds down: then the result is 1 for an odd number.
        one, none = ((0, 0, 1),), ((0, 0, 0),)
        first = [(None, 0, none, None), (None, 1, one, None), (None, None, none, "q")]
        second = [(None, -1, none, None), (None, None, one, None)]
        modes = [("r", "down", [(None, None, one, "r")]), ("q", "down", second)]
        parts = (2, [("a", 0)], [("p", "down", first), *modes], [], (1, 0))
        corrections = Corrections(Program(*parts), "up")
        self.assertEqual(corrections.least(), [("p",), ("q",)])
        self.assertEqual(check_corrections(Program(*parts), "up", corrections.paper()), [("p",), ("q",)])
        self.assertEqual([corrections.parting(kept) is None for kept in [[], ["r"], ["p", "r"]]], [False, False, True])

    def test_the_list_is_new(self):
        corrections = Corrections(Program(*DOC), "down")
        corrections.least().clear()
        self.assertEqual(corrections.least(), [("m",)])


class PaperTest(Case):
    def test_rows(self):
        for parts, rule in several():
            corrections = Corrections(Program(*parts), rule)
            paper = corrections.paper()
            self.assertIsInstance(paper, tuple)
            self.assertEqual([row[0] for row in paper], sets_in_order(parts))
            for kept, number, agreement in paper:
                self.assertEqual(number, corrections.parting(kept))
                self.assertEqual(agreement is None, number is not None)
            self.assertEqual(right_by_words(parts, rule, paper), corrections.least())
            self.assertEqual(check_corrections(Program(*parts), rule, paper), corrections.least())


class CheckTest(Case):
    def test_rows_in_any_order(self):
        chance = random.Random(3)
        for parts, rule in several(16):
            corrections = Corrections(program=Program(*parts), rule=rule)
            paper = list(corrections.paper())
            for _ in range(2):
                chance.shuffle(paper)
                shown = check_corrections(program=Program(*parts), rule=rule, paper=tuple(paper))
                self.assertEqual(shown, corrections.least())

    def test_bent_papers(self):
        chance = random.Random(4)
        told = [0, 0]
        for parts, rule in several(24):
            program = Program(*parts)
            paper = Corrections(program, rule).paper()
            for _ in range(25 if len(parts[2]) < 4 else 5):
                wrong = bent(paper, chance)
                wanted = right_by_words(parts, rule, wrong)
                self.assertEqual(check_corrections(program, rule, wrong), wanted, wrong)
                told[wanted is None] += 1
        self.assertGreater(min(told), 15)

    def test_papers_that_are_not_right(self):
        program = Program(*DOC)
        paper = Corrections(program, "down").paper()
        none, first, second, both = paper
        self.assertEqual([row[:2] for row in paper], [((), -1), (("m",), None), (("n",), -1), (("m", "n"), None)])
        agreement = both[2]
        wrong = [
            *STRANGE, paper[:3], (*paper, paper[0]), list(paper), [list(row) for row in paper], (none,) * 4,
            (none, first, second, list(both)), (none, first, second, (("n", "m"), None, agreement)),
            (none, first, second, (["m", "n"], None, agreement)), (none, first, second, (("m", "m"), None, agreement)),
            (none, first, second, (("m", "n"), None, None)), (none, first, second, (("m", "n"), -1, None)),
            (none, first, second, (("m", "n"), 0, agreement)), (none, first, second, ("mn", None, agreement)),
            (((), -1, agreement), first, second, both), (((), 1, None), first, second, both),
            (((), None, agreement), first, second, both), (((), "-1", None), first, second, both),
            (((), True, None), first, second, both), (((), -1), first, second, both), ((), first, second, both),
            (((), -1, ()), first, second, both), (((None,), -1, None), first, second, both),
            (([], -1, None), first, second, both), ((([],), -1, None), first, second, both), (none, first, first, both),
            (none, (("m",), None, (agreement[0],)), second, both),
        ]
        for value in wrong:
            self.assertIsNone(check_corrections(program, "down", value), value)
        right = (both, (("n",), -123, None), first, ((), -7, None))
        self.assertEqual(check_corrections(program, "down", right), [("m",)])

    def test_papers_of_another_rule_or_program(self):
        program = Program(*DOC)
        paper = Corrections(program, "down").paper()
        self.assertIsNone(check_corrections(program, "up", paper))
        self.assertEqual(check_corrections(program, "near", paper), None)
        self.assertIsNone(check_corrections(sums(), "down", paper))
        self.assertIsNone(check_corrections(program.with_rule("m", "down"), "down", paper))

    def test_a_number_with_a_paper_of_its_own(self):
        program = Program(*DOC)
        paper = Corrections(program, "zero").paper()
        self.assertEqual([row[1] for row in paper], [None] * 4)
        self.assertEqual(check_corrections(program, "zero", paper), [()])
        self.assertEqual(paper[0][2], agreement_paper(program, program))


class RefusedTest(Case):
    def test_programs_and_rules(self):
        for value in [*STRANGE, 10, "sums"]:
            self.refused("InvalidProgram", [value], Corrections, value, "down")
            self.refused("InvalidProgram", [value], Corrections, value, "no rule")
            self.refused("InvalidProgram", [value], check_corrections, value, "down", ())
            self.refused("InvalidProgram", [value], check_corrections, value, None, None)
            self.refused("InvalidRule", [value], Corrections, sums(), value)
            self.refused("InvalidRule", [value], check_corrections, sums(), value, Corrections(sums(), "up").paper())


class TimeTest(Case):
    def test_four_modes_three_registers_base_10(self):
        chance = random.Random(2)
        parts = with_parts(10, "abcd", chance, 3, 0, 3, (0, 0, 0, 5))
        program = Program(*parts)
        start = time.perf_counter()
        corrections = Corrections(program, "down")
        self.assertEqual(corrections.least(), [()])
        self.assertEqual(check_corrections(program, "down", corrections.paper()), [()])
        self.assertLess(time.perf_counter() - start, 20)


if __name__ == "__main__":
    unittest.main()
