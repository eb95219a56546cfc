import random
import unittest

from twodivisions.comparing import parted
from twodivisions.papers import agreement_paper, check_agreement
from twodivisions.programs import Program

from tests.oracles import bent, changed_parts, is_right_agreement, other_names, with_parts
from tests.samples import RULES, STRANGE, Case, play, sums, turned, two_modes
from tests.test_comparing import counter

SUMS = (10, [("s", 0)], [("m", "zero", [(None, None, ((1, 1, 0),), "m")])], [0], (1, 0))


def couples(many=60):
    """Tuples of the parts of two programs with the same size, many of them alike."""
    chance = random.Random(77)
    for at in range(many):
        size = [2, 3, 2, 4][at % 4]
        result = (0, 0, 0, 4)[-1 - (1 + at % 3):] if at % 5 == 0 else None
        one = with_parts(chance.choice([size, -size]), "abcd"[:1 + at % 4], chance, 1 + at % 3, at % 2, 3, result)
        other = changed_parts(one, chance) if at % 2 else one
        yield one, other_names(other) if at % 3 == 0 else other


def alike():
    """Those that are alike, with their papers."""
    for one, other in couples():
        paper = agreement_paper(Program(*one), Program(*other))
        if paper is not None:
            yield one, other, paper


class PaperTest(Case):
    def test_none_exactly_if_a_number_parts_them(self):
        told = [0, 0]
        for one, other in couples(120):
            paper = agreement_paper(one=Program(*one), other=Program(*other))
            number = parted(Program(*one), Program(*other))
            told[paper is None] += 1
            self.assertEqual(paper is None, number is not None)
            if number is not None:
                self.assertNotEqual(play(one, number)["result"], play(other, number)["result"])
            else:
                self.assertTrue(is_right_agreement(one, other, paper))
                self.assertIs(check_agreement(Program(*one), Program(*other), paper), True)
        self.assertGreater(min(told), 10)

    def test_parted_by_long_numbers_only(self):
        many, none = counter()
        self.assertIsNone(agreement_paper(Program(*many), Program(*none)))
        self.assertIsNone(agreement_paper(sums(), sums().under("down")))

    def test_parted_by_0_only(self):
        rows = [(0, None, ((1, 0, 7),), None), (None, None, ((1, 0, 0),), None)]
        stops = Program(3, [("r", 0)], [("m", "zero", rows)], [], (1, 0))
        self.assertIsNone(agreement_paper(stops, stops.changed(ends=[0])))

    def test_all_rules_with_themselves(self):
        for base in (10, -10, 2, -3):
            for rule in RULES:
                one = (base, SUMS[1], [("m", rule, SUMS[2][0][2])], SUMS[3], SUMS[4])
                paper = agreement_paper(Program(*one), Program(*one))
                self.assertTrue(is_right_agreement(one, one, paper))
                self.assertTrue(check_agreement(one=Program(*one), other=Program(*one), paper=paper))

    def test_signs_of_bases(self):
        one = (10, [("r", 0)], [("m", "zero", [(None, None, ((1, 0, 1),), "m")])], [0], (1, 0))
        other = (-10, *one[1:])
        paper = agreement_paper(Program(*one), Program(*other))
        self.assertTrue(is_right_agreement(one, other, paper))
        self.assertEqual({entry[1] for entry in paper[0]}, {("m", 1, 0), ("m", -1, 0)})


class CheckTest(Case):
    def test_bent_papers(self):
        chance = random.Random(5)
        told = [0, 0]
        for one, other, paper in alike():
            programs = Program(*one), Program(*other)
            for _ in range(40):
                wrong = paper
                for _ in range(chance.choice([1, 1, 2])):
                    wrong = bent(wrong, chance)
                wanted = is_right_agreement(one, other, wrong)
                self.assertIs(check_agreement(*programs, wrong), wanted, wrong)
                told[wanted] += 1
        self.assertGreater(min(told), 40)

    def test_papers_of_other_programs(self):
        several = list(alike())
        programs = [(Program(*one), Program(*other)) for one, other, _ in several]
        told = [0, 0]
        for (one, other, _), pair in zip(several, programs):
            for _, _, paper in several[:12]:
                if pair[0].size == 2:
                    wanted = is_right_agreement(one, other, paper)
                    self.assertIs(check_agreement(*pair, paper), wanted)
                    told[wanted] += 1
        self.assertGreater(min(told), 0)

    def test_parted_programs_have_no_paper(self):
        chance = random.Random(6)
        for one, other, paper in list(alike())[:25]:
            for _ in range(6):
                changed = changed_parts(other, chance)
                if check_agreement(Program(*one), Program(*changed), paper):
                    self.assertIsNone(parted(Program(*one), Program(*changed)))
                    self.assertTrue(is_right_agreement(one, changed, paper))
                base, registers, modes, ends, result = other
                changed = (base, registers, modes, ends, (*result[:-1], result[-1] + 1))
                self.assertFalse(check_agreement(Program(*one), Program(*changed), paper))

    def test_parted_by_0_only(self):
        rows = [(0, None, ((1, 0, 7),), None), (None, None, ((1, 0, 0),), None)]
        stops = Program(3, [("r", 0)], [("m", "zero", rows)], [], (1, 0))
        paper = agreement_paper(stops, stops)
        self.assertEqual([check_agreement(stops, stops, paper), parted(stops, stops.changed(ends=[0]))], [True, 0])
        self.assertFalse(check_agreement(stops, stops.changed(ends=[0]), paper))

    def test_results_that_are_not_equal(self):
        # The ends and the result change no round ahead of the highest figure, so all steps stay right.
        for rule in ("zero", "down"):
            program = sums().under(rule)
            paper = agreement_paper(program, program)
            ends = [(at, 0) for at in range(-9, 0)] + [(0, at) for at in range(1, 10)]
            for other in [program.changed(result=(2, 0)), *[program.changed(ends=told) for told in ends]]:
                self.assertIs(check_agreement(program, other, paper), parted(program, other) is None)
                self.assertIs(check_agreement(other, program, paper), parted(program, other) is None)
        below = sums().under("down")
        # The one is endless on all numbers below 0, the other one on none.
        self.assertFalse(check_agreement(below, below.changed(ends=(-1, 0)), agreement_paper(below, below)))

    def test_any_value(self):
        wrong = [*STRANGE, ((), ()), ((), (), ()), ([], []), [(), ()], "paper", 12, (None, None), (((),), ((),)),
                 ((1,), (2,)), ((((), (), (), ()),), ())]
        for value in wrong:
            self.assertIs(check_agreement(sums(), sums(), value), False)

    def test_entries_that_are_not_as_told(self):
        paper = agreement_paper(sums(), sums())
        (entry,), below = paper
        state, beside, rows, steps = entry
        self.assertTrue(check_agreement(sums(), sums(), paper))
        more = tuple(tuple((*part, 0) for part in step) for step in steps)
        fewer = tuple(tuple(part[:2] if part[2] == 0 else part for part in step) for step in steps)
        wrong = [
            (state, beside, rows), (state, beside, rows, steps, ()), [state, beside, rows, steps],
            (list(state), beside, rows, steps), (("m", True, 0), beside, rows, steps),
            (("m", 1, False), beside, rows, steps), (("m", 1, 1), beside, rows, steps), ((), beside, rows, steps),
            (("n", 1, 0), beside, rows, steps), (("m", -1, 0), beside, rows, steps), ("m", beside, rows, steps),
            (([], 1, 0), beside, rows, steps), (state, None, rows, steps), (state, beside, list(rows), steps),
            (state, beside, rows, list(steps)), (state, beside, rows[:1], steps[:1]), (state, beside, (), ()),
            (state, beside, rows, steps[:1]), (state, beside, rows, (*steps, steps[0])), (state, beside, rows, more),
            (state, beside, rows, fewer), (state, beside, rows, (steps[0], [*steps[1]])),
            (state, beside, tuple(row[:-1] for row in rows), steps), (state, beside, (list(rows[0]), rows[1]), steps),
            (state, beside, ((0, 0, True), rows[1]), steps), (state, beside, ((False, 0, 1), rows[1]), steps),
            (state, beside, rows, (steps[0][:-1], steps[1])), (state, beside, rows, ((), steps[1])),
            (state, beside, rows, (((True, *steps[0][0][1:]), *steps[0][1:]), steps[1])),
            (state, beside, rows, (((0, 0, 0), *steps[0][1:]), steps[1])),
            (state, beside, rows, (((-1, -1, 0), *steps[0][1:]), steps[1])),
            (state, beside, rows, (((), *steps[0][1:]), steps[1])),
            (state, beside, rows, (((1,), *steps[0][1:]), steps[1])),
        ]
        for other in wrong:
            self.assertIs(check_agreement(sums(), sums(), ((other,), below)), False, other)
        for half in [(), (entry, entry), [entry], below, (entry, *below), None]:
            self.assertIs(check_agreement(sums(), sums(), (half, below)), False, half)
        self.assertIs(check_agreement(sums(), sums(), paper[::-1]), False)
        self.assertIs(check_agreement(sums(), sums(), list(paper)), False)

    def test_right_in_other_ways(self):
        paper = agreement_paper(sums(), sums())
        (entry,), below = paper
        state, beside, rows, steps = entry
        # Twice each step, and the rows in another order.
        twice = tuple(tuple(tuple(2 * n for n in part) for part in step) for step in steps)
        swapped = tuple(tuple((part[0], *part[:0:-1]) for part in step) for step in steps[::-1])
        # A row of zeros more, and an entry that is a part of nothing.
        zeros = (*steps, ((1, 0, 0, 0),) * 10)
        more = tuple(tuple((*part, 0) if len(part) == 3 else part for part in step) for step in zeros)
        for other in [(state, beside, rows, twice), (state, beside, rows[::-1], swapped),
                      (state, beside, (*rows, (0, 0, 0)), more)]:
            self.assertIs(check_agreement(sums(), sums(), ((other,), below)), True)

    def test_entries_without_rows(self):
        one = (3, [("r", 0)], [("m", "zero", [(None, None, ((1, 0, 0),), "m")])], [0], (1, 0))
        paper = agreement_paper(Program(*one), Program(*one))
        for at, half in enumerate(paper):
            for spot in range(len(half)):
                empty = (*half[:spot], (*half[spot][:2], (), ()), *half[spot + 1:])
                wrong = (*paper[:at], empty, *paper[at + 1:])
                self.assertIs(check_agreement(Program(*one), Program(*one), wrong), is_right_agreement(one, one, wrong))

    def test_nothing_is_changed(self):
        one, other = two_modes(), two_modes()
        paper = agreement_paper(one, other)
        self.assertEqual(agreement_paper(one, other), paper)
        self.assertEqual([one, other, check_agreement(one, other, paper)], [two_modes(), two_modes(), True])


class RefusedTest(Case):
    def test_programs(self):
        for value in [*STRANGE, 10, "sums"]:
            self.refused("InvalidProgram", [value], agreement_paper, value, sums())
            self.refused("InvalidProgram", [value], agreement_paper, sums(), value)
            self.refused("InvalidProgram", [value], agreement_paper, value, 7)
            self.refused("InvalidProgram", [value], check_agreement, value, sums(), None)
            self.refused("InvalidProgram", [value], check_agreement, sums(), value, ())
        self.refused("Unlike", [10, 4], agreement_paper, turned(), two_modes())
        self.refused("Unlike", [4, 10], check_agreement, two_modes(), turned(), ((), ()))


if __name__ == "__main__":
    unittest.main()
