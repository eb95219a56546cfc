import random
import unittest

from twodivisions import errors
from twodivisions.comparing import parted
from twodivisions.drafts import Draft, Site
from twodivisions.programs import Program

from tests.samples import RULES, STRANGE, Case, play, some_parts, sums, turned, two_modes

KEEP = ((1, 0, 0),)


def drawn_row(chance, program):
    """Arguments of with_row, mostly right ones."""
    many, size = len(program.registers()), program.size
    mode = chance.choice([*program.modes() * 3, "nowhere"])
    sign, remainder = chance.choice([None, -1, 0, 1, 2]), chance.choice([None, 0, 1, 1 - size, size])
    updates = tuple(tuple(chance.randint(-2, 2) for _ in range(many + 2)) for _ in range(many))
    return mode, sign, remainder, updates, chance.choice([*program.modes(), None, "nowhere"])


def tried(call, *values, **named):
    """The tuple (result, None), or (None, the error with its fields)."""
    try:
        return call(*values, **named), None
    except (ValueError, LookupError, RuntimeError) as error:
        return None, (type(error), vars(error))


class ChangesTest(Case):
    def look_at(self, draft, change, wanted):
        """Make a change beside the function of Program with the same effect; wanted is what that told."""
        ahead, many = draft.current(), draft.many
        told = tried(change)
        self.assertEqual(told, (None, wanted[1]))
        if wanted[1] is None:
            self.assertEqual([draft.current(), draft.many], [wanted[0], many + 1])
            for mode in wanted[0].modes():
                self.assertEqual(draft.current().rows_of(mode), wanted[0].rows_of(mode))
        else:
            self.assertIs(draft.current(), ahead)
            self.assertEqual(draft.many, many)

    def test_beside_programs(self):
        chance = random.Random(1)
        for parts in some_parts(60):
            draft = Draft(Program(*parts))
            for _ in range(25):
                program = draft.current()
                self.one_change(draft, program, chance)

    def one_change(self, draft, program, chance):
        kind = chance.randrange(9)
        row = drawn_row(chance, program)
        rule = chance.choice([*RULES, *RULES, "near ", None])
        ends = chance.choice([(), [0], (-1, 0, 1), (1, 0), (10,), None, 5])
        if kind == 0:
            def assign():
                draft[row[0], row[1], row[2]] = row[3:]
            self.look_at(draft, assign, tried(program.with_row, *row))
        elif kind == 1:
            self.look_at(draft, lambda: draft.set_row(*row), tried(program.with_row, *row))
        elif kind == 2:
            self.look_at(draft, lambda: draft.set_rule(row[0], rule), tried(program.with_rule, row[0], rule))
        elif kind in (3, 4):
            mode = chance.choice(program.modes())
            site = draft.site(mode)

            def set_rule():
                site.rule = rule
            change = set_rule if kind == 3 else lambda: site.set_to(rule)
            self.look_at(draft, change, tried(program.with_rule, mode, rule))
        elif kind == 5:
            def set_ends():
                draft.end_numbers = ends
            self.look_at(draft, set_ends, tried(program.changed, ends=ends))
        elif kind == 6:
            self.look_at(draft, lambda: draft.set_ends(ends=ends), tried(program.changed, ends=ends))
        elif kind == 7:
            base = chance.choice([program.base, -program.base, 10, 11, None, 1])
            self.look_at(draft, lambda: draft.change_base(base=base), tried(program.changed, base=base))
        else:
            result = chance.choice([(1,) * (len(row[3]) + 1), (1,), None, 5])
            self.look_at(draft, lambda: draft.change_result(result=result), tried(program.changed, result=result))

    def test_arguments_by_name(self):
        draft = Draft(program=sums())
        draft.set_row(mode="m", sign=1, remainder=None, updates=KEEP, then=None)
        draft.set_rule(mode="m", rule="down")
        draft.site(mode="m").set_to(rule="up")
        self.assertEqual(draft.current(), sums().with_row("m", 1, None, KEEP, None).under("up"))
        self.assertEqual([draft.within(call=lambda: 5), Site(draft=draft, mode="m").rule], [5, "up"])

    def test_rows_are_read_as_in_programs(self):
        draft = Draft(two_modes())
        for mode in ("odd", "even"):
            for sign in (-1, 0, 1):
                for remainder in range(-3, 4):
                    self.assertEqual(draft[mode, sign, remainder], two_modes()[mode, sign, remainder])
        draft["odd", 1, 2] = (((0, 0, 0, 0), (0, 0, 0, 0)), None)
        self.assertEqual(draft["odd", 1, 2], (((0, 0, 0, 0), (0, 0, 0, 0)), None))
        for value in STRANGE:
            self.refused("UnknownName", [value], draft.__getitem__, (value, 1, 1))
            self.refused("InvalidSign", [value], draft.__getitem__, ("odd", value, 1))
            self.refused("InvalidNumber", [value], draft.__getitem__, ("odd", 1, value))
        with self.assertRaises(TypeError):
            list(draft)

    def test_values_that_are_no_tuple_of_two(self):
        draft = Draft(sums())
        wrong = [value for value in STRANGE if value not in ((), ([],), ({},))] + [(), (KEEP,), (KEEP, None, 1), [KEEP, None]]
        for value in wrong:
            for mode in ("m", "nowhere", None, 7):
                self.refused("InvalidRow", [mode, None], draft.__setitem__, (mode, 9, "x"), value)
        self.assertEqual([draft.current(), draft.many], [sums(), 0])
        self.refused("UnknownName", ["nowhere"], draft.__setitem__, ("nowhere", 1, 1), (KEEP, None))
        self.refused("InvalidRow", ["m", 1], draft.__setitem__, ("m", 9, 1), (KEEP, None))
        self.refused("InvalidRow", ["m", 1], draft.__setitem__, ("m", 1, 1), (list(KEEP), None))
        self.refused("InvalidRow", ["m", 0], draft.__setitem__, ("m", None, None), (KEEP, "n"))

    def test_no_program(self):
        for value in [*STRANGE, 5]:
            self.refused("InvalidProgram", [value], Draft, value)

    def test_programs_stay_as_they_were(self):
        program = two_modes()
        draft = Draft(program)
        self.assertIs(draft.current(), program)
        draft.set_rule("odd", "down")
        ends = [0, 1]
        draft.set_ends(ends)
        ends.append(5)
        self.assertEqual([program, draft.end_numbers, type(draft.end_numbers)], [two_modes(), (0, 1), tuple])


class SitesTest(Case):
    def test_sites_of_one_mode(self):
        draft = Draft(two_modes())
        one, other, even = draft.site("odd"), Site(draft, "odd"), draft.site("even")
        self.assertEqual([one.rule, other.rule, even.rule], ["near", "near", "up"])
        one.rule = "down"
        self.assertEqual([one.rule, other.rule, even.rule, draft.current().rule_of("odd")], ["down", "down", "up", "down"])
        other.set_to("zero")
        self.assertEqual([one.rule, draft.many], ["zero", 2])
        draft.undo()
        self.assertEqual([one.rule, other.rule], ["down", "down"])
        for value in STRANGE:
            self.refused("InvalidRule", [value], setattr, one, "rule", value)
            self.refused("InvalidRule", [value], other.set_to, value)
        self.assertEqual([one.rule, draft.many], ["down", 1])

    def test_no_modes(self):
        draft = Draft(two_modes())
        for value in [*STRANGE, "od", 1]:
            self.refused("UnknownName", [value], draft.site, value)
            self.refused("UnknownName", [value], Site, draft, value)


class UndoTest(Case):
    def test_all_changes_in_turn(self):
        chance = random.Random(2)
        draft = Draft(sums())
        told = [draft.current()]
        for _ in range(200):
            if chance.random() < 0.4 and len(told) > 1:
                self.assertIsNone(draft.undo())
                told.pop()
            else:
                draft.change_result((chance.randint(0, 3), chance.randint(0, 3)))
                told.append(draft.current())
            self.assertEqual([draft.current(), draft.many], [told[-1], len(told) - 1])
        while draft.many > 0:
            draft.undo()
        self.assertEqual(draft.current(), sums())
        self.refused("NothingToUndo", [], draft.undo)

    def test_changes_that_leave_an_equal_program(self):
        draft = Draft(sums())
        changes = [lambda: draft.set_ends(None), lambda: draft.change_base(None), lambda: draft.change_result(None),
                   lambda: draft.set_rule("m", "zero"), lambda: draft.set_ends([0]), lambda: draft.change_base(10),
                   lambda: draft.set_row("m", None, None, ((1, 1, 0),), "m"), lambda: draft.site("m").set_to("zero")]
        for at, change in enumerate(changes):
            self.assertIsNone(change())
            self.assertEqual([draft.many, draft.current()], [at + 1, sums()])
        draft.end_numbers = None
        self.assertEqual([draft.many, draft.end_numbers], [len(changes) + 1, (0,)])
        for _ in range(len(changes) + 1):
            draft.undo()
        self.refused("NothingToUndo", [], draft.undo)

    def test_refused_changes_cannot_be_undone(self):
        draft = Draft(sums())
        draft.set_rule("m", "down")
        self.refused("InvalidBase", [1], draft.change_base, 1)
        self.refused("InvalidEnds", [(1, 0)], draft.set_ends, (1, 0))
        self.refused("InvalidResult", [()], draft.change_result, ())
        draft.undo()
        self.assertEqual([draft.many, draft.current()], [0, sums()])


class Stop(BaseException):
    """An error that is below none of the usual ones."""


ERRORS = [ValueError, KeyError, errors.NothingToUndo, KeyboardInterrupt, Stop, StopIteration, GeneratorExit]


class TrialTest(Case):
    def test_without_an_error(self):
        draft = Draft(sums())
        with draft.trial() as told:
            self.assertIs(told, draft)
            draft.set_rule("m", "down")
            draft.change_base(-10)
        self.assertEqual([draft.many, draft.current()], [2, sums().under("down").changed(base=-10)])
        draft.undo()
        self.assertEqual(draft.current(), sums().under("down"))

    def test_left_by_an_error(self):
        for error in ERRORS:
            draft = Draft(sums())
            draft.set_rule("m", "down")
            draft.set_rule("m", "up")
            ahead = draft.current()
            with self.assertRaises(error):
                with draft.trial():
                    draft.undo()
                    draft.undo()
                    draft.change_base(5)
                    raise error()
            self.assertEqual([draft.current(), draft.many], [ahead, 2])
            draft.undo()
            self.assertEqual(draft.current(), sums().under("down"))

    def test_undo_of_changes_ahead_of_the_block(self):
        draft = Draft(sums())
        draft.set_rule("m", "down")
        with draft.trial():
            draft.undo()
            draft.set_rule("m", "near")
        self.assertEqual([draft.many, draft.current()], [1, sums().under("near")])

    def test_nested(self):
        draft = Draft(sums())
        with draft.trial():
            draft.set_rule("m", "down")
            with self.assertRaises(KeyError):
                with draft.trial():
                    draft.set_rule("m", "up")
                    with draft.trial():
                        draft.set_rule("m", "near")
                    self.assertEqual(draft.many, 3)
                    raise KeyError()
            self.assertEqual([draft.many, draft.current()], [1, sums().under("down")])
        self.assertEqual([draft.many, draft.current()], [1, sums().under("down")])
        with self.assertRaises(ValueError):
            with draft.trial():
                with draft.trial():
                    draft.set_rule("m", "up")
                draft.change_base(7)
                raise ValueError()
        self.assertEqual([draft.many, draft.current()], [1, sums().under("down")])

    def test_a_refused_change_leaves_the_block(self):
        draft = Draft(sums())
        with self.assertRaises(errors.InvalidRule):
            with draft.trial():
                draft.set_ends(())
                draft.site("m").rule = "sideways"
        self.assertEqual([draft.many, draft.end_numbers], [0, (0,)])

    def test_within(self):
        draft = Draft(sums())

        def change():
            draft.set_rule("m", "down")
            return ["told"]
        self.assertEqual([draft.within(change), draft.many], [["told"], 1])
        for error in ERRORS:
            def fail():
                draft.undo()
                draft.within(change)
                draft.change_base(3)
                raise error()
            with self.assertRaises(error):
                draft.within(fail)
            self.assertEqual([draft.many, draft.current()], [1, sums().under("down")])


class PartingTest(Case):
    def test_beside_parted(self):
        chance = random.Random(3)
        told = [0, 0]
        for parts in some_parts(60):
            program = Program(*parts)
            draft = Draft(program)
            self.assertIsNone(draft.parting())
            for _ in range(3):
                draft.set_rule(chance.choice(program.modes()), chance.choice(RULES))
                number = draft.parting()
                self.assertEqual(number, parted(program, draft.current()))
                told[number is None] += 1
                if number is not None:
                    parts = (program.base, program.registers(), [(mode, draft.site(mode).rule, program.rows_of(mode))
                                                                 for mode in program.modes()], *parts[3:])
                    self.assertNotEqual(play(parts, number)["result"], tried_result(program, number))
        self.assertGreater(min(told), 20)

    def test_another_size(self):
        draft = Draft(turned())
        draft.change_base(-9)
        self.refused("Unlike", [10, 9], draft.parting)
        draft.change_base(-10)
        self.assertEqual(draft.parting(), parted(turned(), turned().changed(base=-10)))

    def test_unequal_to_other_values(self):
        draft = Draft(sums())
        for value in [*STRANGE, sums()]:
            for one in (draft, draft.site("m")):
                self.assertTrue(one != value)
                self.assertFalse(one == value)


def tried_result(program, number):
    """The result of a program, or None if it is endless."""
    try:
        return program(number)
    except errors.Endless:
        return None


if __name__ == "__main__":
    unittest.main()
