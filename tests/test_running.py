"""Tests of twodivisions.running."""

import random

from tests.samples import STRANGE, Case, play, random_numbers, random_parts, some_parts, sums, turned, two_modes
from twodivisions.programs import Program
from twodivisions.running import Run, run
from twodivisions.wholes import Desk


class EndsTest(Case):
    def test_rests(self):
        told = run(turned(), 123)
        self.assertEqual([told.how, told.result, told.last, told.ring()], ["rests", 321, 0, None])
        self.assertEqual(told.rounds(), [("m", 123, 3), ("m", 12, 2), ("m", 1, 1)])
        self.assertEqual([told.registers(at) for at in range(4)], [(0,), (3,), (32,), (321,)])
        self.assertEqual(len(told), 3)

    def test_rests_at_once(self):
        for number in [-3, 0]:
            told = run(two_modes(), number)
            self.assertEqual([told.how, told.last, told.ring(), told.rounds()], ["rests", number, None, []])
            self.assertEqual([told.registers(0), told.result, len(told)], [(5, -7), 5 + 14 + 9, 0])

    def test_stops(self):
        rows = [(None, None, ((1, 1, 0),), "m"), (-1, -7, ((1, 0, 100),), None)]
        program = Program(10, [("s", 2)], [("m", "zero", rows)], [0], (-1, 3))
        told = run(program, -98765)
        self.assertEqual([told.how, told.last, told.ring()], ["stops", -98, None])
        self.assertEqual(told.rounds(), [("m", -98765, -5), ("m", -9876, -6), ("m", -987, -7)])
        self.assertEqual([told.registers(at) for at in range(4)], [(2,), (-3,), (-9,), (91,)])
        self.assertEqual([told.result, len(told)], [-88, 3])

    def test_stops_beside_an_end(self):
        program = Program(10, [("s", 2)], [("m", "zero", [(None, None, ((1, 1, 0),), None)])], [0], (1, 0))
        told = run(program, 7)
        self.assertEqual([told.how, told.last, told.result], ["stops", 0, 9])
        told = run(program.changed(ends=[7]), 7)
        self.assertEqual([told.how, told.last, told.result], ["rests", 7, 2])

    def test_endless(self):
        told = run(sums().under("down"), -120)
        self.assertEqual([told.how, told.result, told.last], ["endless", None, None])
        self.assertEqual(told.rounds(), [("m", -120, 0), ("m", -12, 8), ("m", -2, 8), ("m", -1, 9)])
        self.assertEqual([told.ring(), len(told)], [(3, 1), 4])
        self.assertEqual([told.registers(at) for at in range(5)], [(0,), (0,), (8,), (16,), (25,)])

    def test_longer_rings(self):
        keep = ((1, 0, 1),)
        modes = [("a", "zero", [(None, None, keep, "b")]), ("b", "down", [(None, None, keep, "c")]),
                 ("c", "up", [(None, None, keep, "b")])]
        program = Program(10, [("n", 0)], modes, [], (1, 0))
        told = run(program, 57)
        self.assertEqual(told.rounds(), [("a", 57, 7), ("b", 5, 5), ("c", 0, 0), ("b", 0, 0)])
        self.assertEqual([told.how, told.ring(), len(told), told.registers(4)], ["endless", (2, 2), 4, (4,)])
        told = run(program, 0)
        self.assertEqual([told.rounds(), told.ring()], [[("a", 0, 0), ("b", 0, 0), ("c", 0, 0)], (1, 2)])
        back = Program(-2, [("n", 0)], [("a", "positive", [(None, None, keep, "a")])], [], (1, 0))
        self.assertEqual([run(back, -1).rounds(), run(back, -1).ring()], [[("a", -1, 1), ("a", 1, 1), ("a", 0, 0)], (2, 1)])

    def test_the_same_x_in_another_mode_is_no_ring(self):
        keep = ((1, 0, 1),)
        modes = [("a", "down", [(None, None, keep, "b")]), ("b", "down", [(None, None, keep, "c")]),
                 ("c", "zero", [(None, None, keep, None)])]
        program = Program(10, [("n", 0)], modes, [], (1, 0))
        for number in [-1, 0]:
            told = run(program, number)
            self.assertEqual([told.how, told.last, told.result, told.ring()], ["stops", 0, 3, None])
            self.assertEqual([x for _, x, _ in told], [number] * 3)

    def test_a_ring_of_signs(self):
        keep = ((1, 0, 1),)
        program = Program(-10, [("n", 0)], [("a", "up", [(None, None, keep, "b")]), ("b", "down", [(None, None, keep, "a")])],
                          [0], (1, 0))
        told = run(program, -7)
        self.assertEqual(told.rounds(), [("a", -7, 3), ("b", 1, -9), ("a", -1, 9)])
        self.assertEqual([told.how, told.ring()], ["endless", (1, 2)])


class BesideTheWordsTest(Case):
    def beside(self, parts, number):
        told, wanted = run(Program(*parts), number), play(parts, number)
        self.assertEqual([told.how, told.last, told.result, told.ring()],
                         [wanted["how"], wanted["last"], wanted["result"], wanted["ring"]])
        self.assertEqual(told.rounds(), wanted["rounds"])
        self.assertEqual([told.registers(at) for at in range(len(told) + 1)], wanted["registers"])
        self.assertEqual([list(told), len(told)], [wanted["rounds"], len(wanted["rounds"])])
        if told.how == "endless":
            self.refused("Endless", [number], Program(*parts), number)
        else:
            self.assertEqual(Program(*parts)(number), wanted["result"])
        return told.how

    def test_programs_of_all_sorts(self):
        chance = random.Random(11)
        found = [self.beside(parts, number) for parts in some_parts(150) for number in random_numbers(chance)]
        self.assertEqual(sorted(set(found)), ["endless", "rests", "stops"])

    def test_by_hand_with_wholes(self):
        chance = random.Random(12)
        for _ in range(60):
            program = Program(*random_parts(chance))
            for number in random_numbers(chance):
                self.by_hand(program, number, run(program, number))

    def by_hand(self, program, number, told):
        desk = Desk()
        mode, x = program.modes()[0], desk.make(number)
        registers = [first for _, first in program.registers()]
        for at, (name, left, remainder) in enumerate(told):
            self.assertNotIn(x.amount, program.ends)
            self.assertEqual([mode, x.amount, tuple(registers)], [name, left, told.registers(at)])
            with desk.using(program.rule_of(mode)):
                rest = (x % program.base).amount
                sign = (x.amount > 0) - (x.amount < 0)
                x //= program.base
            updates, mode = program[mode, sign, rest]
            values = [*registers, rest, 1]
            registers = [sum(one * other for one, other in zip(update, values)) for update in updates]
            self.assertEqual(rest, remainder)
        self.assertEqual(told.registers(len(told)), tuple(registers))
        if told.how == "endless":
            self.assertEqual(told.rounds()[told.ring()[0]][:2], (mode, x.amount))
            self.assertEqual(sum(told.ring()), len(told))
        else:
            self.assertEqual([told.last, mode is None], [x.amount, told.how == "stops"])
            self.assertEqual(told.how == "rests", mode is not None and x.amount in program.ends)
            self.assertEqual(told.result, sum(a * b for a, b in zip(program.result, [*registers, 1])))


class RunTest(Case):
    def test_kinds_of_values(self):
        told = run(program=two_modes(), number=77)
        self.assertIsInstance(told, Run)
        self.assertIs(type(told.rounds()), list)
        for value in [*told.rounds(), told.registers(at=0), told.registers(len(told))]:
            self.assertIs(type(value), tuple)
        self.assertIs(type(run(sums().under("down"), -1).ring()), tuple)

    def test_iteration(self):
        told = run(turned(), 123)
        self.assertEqual([row for row in told], told.rounds())
        self.assertEqual([list(told), tuple(told)], [told.rounds(), tuple(told.rounds())])
        self.assertEqual([(one, other) for one in told for other in told],
                         [(one, other) for one in told.rounds() for other in told.rounds()])
        self.assertEqual(list(run(turned(), 0)), [])

    def test_wrong_indexes(self):
        for program, number in [(turned(), 123), (turned(), 0), (sums().under("down"), -7)]:
            told = run(program, number)
            for value in STRANGE + [-1, -2, len(told) + 1, 10 ** 20]:
                self.refused("InvalidNumber", [value], told.registers, value)

    def test_no_integers(self):
        for value in STRANGE:
            self.refused("InvalidNumber", [value], run, turned(), value)

    def test_lists_that_were_told(self):
        told = run(turned(), 123)
        rounds = told.rounds()
        rounds.append("x")
        rounds[0] = "y"
        self.assertEqual(told.rounds(), [("m", 123, 3), ("m", 12, 2), ("m", 1, 1)])
        self.assertEqual([len(told), list(told), told.result], [3, told.rounds(), 321])

    def test_the_program_is_the_one_of_the_call(self):
        rows = [(None, None, ((10, 1, 0),), "m")]
        ends = [0]
        program = Program(10, [("r", 0)], [("m", "zero", rows)], ends, (1, 0))
        told = run(program, 12)
        rows[0] = None
        ends[0] = 1
        self.assertEqual([told.result, told.last], [21, 0])
        self.assertEqual(told, run(turned(), 12))

    def test_equality(self):
        told = run(turned(), 123)
        for other in [told, run(turned(), 123)]:
            self.assertTrue(told == other)
            self.assertFalse(told != other)
        unlike = [run(turned(), 12), run(turned(), -123), run(turned().changed(result=(1, 1)), 123),
                  run(turned().under("down"), 123), turned(), 123, 321, told.rounds(), *STRANGE]
        for other in unlike:
            self.assertFalse(told == other)
            self.assertTrue(told != other)

    def test_equality_with_rows_in_another_order(self):
        base, registers, (odd, even), ends, result = (
            -4, [("a", 5), ("b", -7)], [(mode, two_modes().rule_of(mode), two_modes().rows_of(mode)[::-1])
                                        for mode in two_modes().modes()], [-3, 0], (1, -2, 9))
        self.assertTrue(run(Program(base, registers, [odd, even], ends, result), 99) == run(two_modes(), 99))

    def test_equal_rounds_of_unlike_numbers(self):
        program = turned().changed(ends=[0, 1, 2])
        self.assertEqual(run(program, 1).rounds(), run(program, 2).rounds())
        self.assertFalse(run(program, 1) == run(program, 2))
