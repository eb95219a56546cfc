import random
import time
import unittest

from twodivisions.programs import Program
from twodivisions.relationpapers import check_relation
from twodivisions.relations import Relations

from tests.oracles import bent, is_right_relation, next_state, with_parts
from tests.samples import STRANGE, Case, some_parts, sums, turned, two_modes, weigh
from tests.test_relations import end_rows, told_programs

SIGNS = (None, 1, -1)


def several():
    """Tuples of the parts of a program, a sign, and the relations of the program for this sign."""
    chance = random.Random(51)
    told = [*told_programs()]
    for at in range(36):
        size = [2, 3, 2, 4][at % 4]
        base = chance.choice([size, -size])
        told.append(with_parts(base, "abcd"[:1 + at % 4], chance, 1 + at % 3, at % 2, 1))
    told.extend(some_parts(6, 3))
    for parts in told:
        for sign in SIGNS:
            yield parts, sign, Relations(Program(*parts), sign=sign)


def sum_of(forms, chance, width):
    """A sum of multiples of forms."""
    factors = [chance.randint(-3, 3) for _ in forms]
    return tuple(sum(factor * form[at] for factor, form in zip(factors, forms)) for at in range(width))


def halves_of(paper, change):
    """The papers in which one entry is replaced by those that a change makes of it."""
    for at, half in enumerate(paper):
        for spot, entry in enumerate(half):
            yield (*paper[:at], (*half[:spot], *change(entry), *half[spot + 1:]), *paper[at + 1:])


class ToldPapersTest(Case):
    def test_right_for_relations_that_hold(self):
        chance = random.Random(3)
        for parts, sign, relations in several():
            program, paper = Program(*parts), relations.paper()
            width = len(parts[1]) + 2
            for form in [*relations.forms(), (0,) * width, sum_of(relations.forms(), chance, width)]:
                self.assertIs(check_relation(program, form, paper, sign=sign), True)
                self.assertTrue(is_right_relation(parts, form, paper, sign))
            self.assertIs(check_relation(program=program, form=(0,) * width, paper=paper, sign=sign), True)

    def test_wrong_for_relations_that_do_not_hold(self):
        chance = random.Random(4)
        wrong = 0
        for parts, sign, relations in several():
            program, paper = Program(*parts), relations.paper()
            for _ in range(5):
                form = tuple(chance.randint(-2, 2) for _ in range(len(parts[1]) + 2))
                holds = form in relations
                wrong += not holds
                self.assertIs(check_relation(program, form, paper, sign=sign), holds)
                self.assertIs(is_right_relation(parts, form, paper, sign), holds)
        self.assertGreater(wrong, 100)

    def test_no_sign_stands_for_all_numbers(self):
        program = Program(*told_programs()[0])
        self.assertIs(check_relation(program, (3, -1, 0, 0), Relations(program).paper()), True)

    def test_a_paper_for_another_sign(self):
        for parts in told_programs()[:4]:
            program = Program(*parts)
            papers = [Relations(program, sign=sign).paper() for sign in SIGNS]
            form = (0,) * (len(parts[1]) + 2)
            for sign, paper in zip(SIGNS, papers):
                for other in SIGNS:
                    self.assertIs(check_relation(program, form, paper, sign=other), sign == other)
            both = (*papers[1], *papers[2])
            self.assertIs(check_relation(program, form, both), True)
            self.assertIs(check_relation(program, form, both[::-1]), False)
            self.assertIs(check_relation(program, form, (*both, *both)), False)

    def test_endless_numbers(self):
        # Ends on no number; on 0 only; and on no number below 0.
        never = sums().changed(ends=())
        down = sums().under("down")
        for sign in SIGNS:
            self.assertIs(check_relation(never, (5, -7, 9), Relations(never, sign=sign).paper(), sign=sign), True)
            paper = Relations(down, sign=sign).paper()
            self.assertIs(check_relation(down, (5, -7, 9), paper, sign=sign), sign == -1)

    def test_the_relation_at_0(self):
        rows = [(0, None, ((0, 0, 1),), None), (None, None, ((1, 0, 0),), "m")]
        program = Program(3, [("r", 0)], [("m", "zero", rows)], [-2, -1, 1, 2], (1, 0))
        # The register is 0 at the end of each run, but for the run on 0, at whose end it is 1.
        for sign in SIGNS:
            paper = Relations(program, sign=sign).paper()
            self.assertIs(check_relation(program, (1, 0, 0), paper, sign=sign), sign == -1)
            self.assertIs(check_relation(program, (0, 0, 0), paper, sign=sign), True)


class OtherPapersTest(Case):
    def test_bent_papers(self):
        chance = random.Random(5)
        told = [0, 0]
        for parts, sign, relations in several():
            program, paper, forms = Program(*parts), relations.paper(), relations.forms()
            for _ in range(12):
                wrong = paper
                for _ in range(chance.choice([1, 1, 2])):
                    wrong = bent(wrong, chance)
                form = chance.choice([*forms, (0,) * (len(parts[1]) + 2)])
                wanted = is_right_relation(parts, form, wrong, sign)
                self.assertIs(check_relation(program, form, wrong, sign=sign), wanted, wrong)
                told[wanted] += 1
        self.assertGreater(min(told), 30)

    def test_entries_in_another_order(self):
        for parts, sign, relations in several():
            paper = tuple(half[::-1] for half in relations.paper())
            for form in relations.forms()[:2]:
                self.assertIs(check_relation(Program(*parts), form, paper, sign=sign), True)

    def test_a_row_more(self):
        for parts, sign, relations in list(several())[::2]:
            width = len(parts[1]) + 3
            form = (relations.forms() or [(0,) * (width - 1)])[0]
            for at, half in enumerate(relations.paper()):
                for spot, (state, rows, steps) in enumerate(half):
                    # Thrice the last row: each part of the old rows stays, and nothing is a part of the new one.
                    more = (*rows, tuple(3 * n for n in rows[-1]))
                    own = (*steps, tuple((part[0], *(3 * n for n in part[1:])) for part in steps[-1]))
                    entries = [(s, r, t) for s, r, t in half]
                    entries[spot] = (state, more, own)
                    told = tuple(self.with_a_part_more(parts, entry, state) for entry in entries)
                    paper = (*relations.paper()[:at], told, *relations.paper()[at + 1:])
                    self.assertTrue(is_right_relation(parts, form, paper, sign))
                    self.assertIs(check_relation(Program(*parts), form, paper, sign=sign), True)

    def with_a_part_more(self, parts, entry, wanted):
        """The entry with one part more, 0, in each step that leads to the wanted state."""
        state, rows, steps = entry
        leads = [next_state(parts, state, figure)[0] == wanted for figure in range(abs(parts[0]))]
        told = tuple(tuple((*part, 0) if lead else part for part, lead in zip(step, leads)) for step in steps)
        return state, rows, told

    def test_whole_and_parts_multiplied(self):
        for parts, sign, relations in several():
            for form in relations.forms()[:1]:
                def multiplied(entry):
                    state, rows, steps = entry
                    return [(state, rows, tuple(tuple(tuple(5 * n for n in p) for p in step) for step in steps))]
                for paper in halves_of(relations.paper(), multiplied):
                    self.assertIs(check_relation(Program(*parts), form, paper, sign=sign), True)

    def test_an_entry_left_out_or_twice_or_with_another_state(self):
        changes = [
            lambda entry: [], lambda entry: [entry, entry], lambda entry: [((), *entry[1:])],
            lambda entry: [(("zz", 1, 0), *entry[1:])], lambda entry: [(entry[0], (), ())],
            lambda entry: [(entry[0], entry[1])], lambda entry: [(*entry, ())], lambda entry: [list(entry)],
            lambda entry: [(entry[0], list(entry[1]), entry[2])], lambda entry: [(entry[0], entry[1], list(entry[2]))],
            lambda entry: [(entry[0], entry[1][1:], entry[2][1:])], lambda entry: [(entry[0], entry[1], entry[2][1:])],
        ]
        for parts, sign, relations in several():
            form = (0,) * (len(parts[1]) + 2)
            for change in changes:
                for paper in list(halves_of(relations.paper(), change))[:4]:
                    wanted = is_right_relation(parts, form, paper, sign)
                    self.assertIs(check_relation(Program(*parts), form, paper, sign=sign), wanted)
                    if change in changes[:2]:
                        self.assertFalse(wanted)

    def test_one_integer_is_another(self):
        program = Program(*told_programs()[0])
        paper = Relations(program, sign=1).paper()
        self.assertTrue(check_relation(program, (3, -1, 0, 0), paper, sign=1))
        (((state, rows, steps),),) = paper
        for at, row in enumerate(rows):
            for spot, entry in enumerate(row):
                other = (*rows[:at], (*row[:spot], entry + 1, *row[spot + 1:]), *rows[at + 1:])
                self.assertIs(check_relation(program, (3, -1, 0, 0), (((state, other, steps),),), sign=1), False)
        for at, step in enumerate(steps):
            for figure, part in enumerate(step):
                for spot, entry in enumerate(part):
                    for wrong in (entry + 1, bool(entry), 0 if spot == 0 else None, -entry if entry else 1):
                        told = (*part[:spot], wrong, *part[spot + 1:])
                        own = (*steps[:at], (*step[:figure], told, *step[figure + 1:]), *steps[at + 1:])
                        self.assertIs(check_relation(program, (3, -1, 0, 0), (((state, rows, own),),), sign=1), False)
                for told in (part[:-1], (*part, 0), (), list(part)):
                    own = (*steps[:at], (*step[:figure], told, *step[figure + 1:]), *steps[at + 1:])
                    self.assertIs(check_relation(program, (3, -1, 0, 0), (((state, rows, own),),), sign=1), False)

    def test_without_the_first_row(self):
        # All states are told rightly, but nothing begins at them.
        program = sums()
        paper = Relations(program, sign=1).paper()
        (((state, rows, steps),),) = paper
        zeros = (((state, ((0, 0, 0, 0),), (((1, 0),) * 10,)),),)
        self.assertIs(check_relation(program, (0, 0, 0), zeros, sign=1), False)
        moved = tuple(tuple(n + 1 if at == 0 else n for at, n in enumerate(row)) for row in rows)
        self.assertIs(check_relation(program, (0, 0, 0), (((state, moved, steps),),), sign=1), False)

    def test_any_value(self):
        wrong = [*STRANGE, ((), ()), ((),), [((),)], "paper", 12, (None, None), (((),),), ((1,),), ((((), (), ()),),)]
        for value in wrong:
            for sign in SIGNS:
                self.assertIs(check_relation(sums(), (0, 0, 0), value, sign=sign), False)

    def test_nothing_is_changed(self):
        program = two_modes()
        paper = Relations(program).paper()
        self.assertIs(check_relation(program, (0, 0, 0, 0), paper), True)
        self.assertEqual([program, Relations(program).paper()], [two_modes(), paper])


class SoundTest(Case):
    def test_what_is_accepted_holds_at_numbers(self):
        chance = random.Random(6)
        accepted = 0
        for parts, sign, relations in list(several())[:60]:
            rows = end_rows(parts, sign)
            for _ in range(6):
                paper = bent(relations.paper(), chance)
                form = tuple(chance.randint(-1, 1) for _ in range(len(parts[1]) + 2))
                if check_relation(Program(*parts), form, paper, sign=sign):
                    accepted += 1
                    self.assertEqual([number for number, row in rows if weigh(form, row) != 0], [])
        self.assertGreater(accepted, 3)


class RefusedTest(Case):
    def test_errors_in_order(self):
        for value in [*STRANGE, 10, "sums"]:
            self.refused("InvalidProgram", [value], check_relation, value, (0, 0, 0), None)
            self.refused("InvalidProgram", [value], check_relation, value, None, None, sign=7)
        for program in (turned(), two_modes()):
            width = len(program.registers()) + 2
            wrong = [*STRANGE, (1,) * (width - 1), (1,) * (width + 1), [1] * width, (True,) * width, (None,) * width, 0]
            for form in wrong:
                self.refused("InvalidForm", [form], check_relation, program, form, None)
                self.refused("InvalidForm", [form], check_relation, program, form, (), sign=0)
            for sign in [*STRANGE[1:], 0, 2, -2]:
                self.refused("InvalidSign", [sign], check_relation, program, (0,) * width, None, sign=sign)
        with self.assertRaises(TypeError):
            check_relation(turned(), (0, 0, 0), ((), ()), None)


class TimeTest(Case):
    def test_four_modes_three_registers_base_10(self):
        chance = random.Random(2)
        for base in (10, -10):
            program = Program(*with_parts(base, "abcd", chance, 3, 1, 10 ** 6))
            paper = Relations(program).paper()
            start = time.perf_counter()
            self.assertTrue(check_relation(program, (0,) * 5, paper))
            self.assertLess(time.perf_counter() - start, 2)


if __name__ == "__main__":
    unittest.main()
