import random
import unittest

from twodivisions import errors
from twodivisions.books import Book
from twodivisions.programs import Program

from tests.samples import ERRORS, STRANGE, Case, figures_in, sums, turned, two_modes
from tests.shelves import ToldBook, closed, error_of, in_other_order, is_broken_at, mixed, programs, two_registers

NAMES = ["a", "b", "longname", "zz"]
FORMS = [(3, -1, 0, 0), (0, 0, 0), (0, 0, 0, 0), (1, 0, 0), (1, -1, 0)]


def drawn_guard(chance):
    """Some guard, of programs that are there or not."""
    kind, sign = chance.choice(["alike", "alike", "relation", "ends"]), chance.choice([None, 1, -1])
    if kind == "alike":
        return kind, chance.choice(NAMES), chance.choice(NAMES), sign
    if kind == "relation":
        return kind, chance.choice(NAMES), chance.choice(FORMS), sign
    return kind, chance.choice(NAMES), sign


class BookCase(Case):
    def look_at(self, book, told):
        """Check that a book is as told."""
        self.assertEqual(book.names(), [name for name, _ in told.now["programs"]])
        self.assertEqual([book[name] for name in book.names()], [program for _, program in told.now["programs"]])
        # The rows of equal programs can stand in another order.
        for name, program in told.now["programs"]:
            for mode in program.modes():
                self.assertEqual(book[name].rows_of(mode), program.rows_of(mode))
        self.assertEqual(book.guards(), told.now["guards"])
        self.assertEqual([len(book), book.depth], [len(told.now["programs"]), len(told.trials)])
        self.assertEqual(book.journal(), closed(told.lines))

    def same_refusal(self, error, wanted, table):
        """Check that an error is the one that is wanted, as a ToldBook tells it."""
        if wanted is None:
            self.assertIsNone(error)
            return
        self.assertEqual(type(error).__name__, wanted[0])
        if wanted[0] != "Guarded":
            self.assertEqual([getattr(error, field) for field in ERRORS[wanted[0]][1]], wanted[1])
            return
        guard, (figures, name, fields) = wanted[1:]
        self.assertEqual(error.condition, guard)
        if name is None:
            self.assertEqual([error.number, error.__cause__, error.__suppress_context__], [None, None, True])
            return
        cause = error.__cause__
        self.assertEqual(type(cause).__name__, name)
        if figures is None:
            self.assertIsNone(error.number)
            self.assertEqual([getattr(cause, field) for field in ERRORS[name][1]], fields)
        else:
            self.assertEqual([cause.number, figures_in(error.number, table[guard[1]].size)], [error.number, figures])
            self.assertTrue(is_broken_at(guard, table, error.number))

    def one_deed(self, book, told, chance):
        """A drawn deed of both books, with the same error."""
        kind = chance.randrange(12)
        table = told.table()
        if kind < 4:
            name, program = chance.choice(NAMES), chance.choice(programs())
            way = chance.choice([book.set_program, book.__setitem__])
            error, wanted = error_of(way, name, program), told.put(name, program)
            table = {**table, name: program}
        elif kind == 4:
            name = chance.choice(NAMES)
            error, wanted = error_of(book.remove, name), told.remove(name)
        elif kind in (5, 6):
            guard = drawn_guard(chance)
            error, wanted = error_of(book.guard, *guard[:-1], sign=guard[-1]), told.guard(guard)
        elif kind == 7:
            guard = chance.choice([*told.now["guards"], drawn_guard(chance)])
            error, wanted = error_of(book.unguard, guard), told.unguard(guard)
        elif kind in (8, 9):
            name = chance.choice(["undo", "redo"])
            error, wanted = error_of(getattr(book, name)), getattr(told, name)()
        else:
            name = chance.choice(["begin", "keep", "take_back"])
            error, wanted = error_of(getattr(book, name)), getattr(told, name)()
        self.same_refusal(error, wanted, table)
        self.look_at(book, told)
        return wanted is None

    def some_deeds(self, book, told, chance, depth=0):
        """Drawn deeds, some of them within a call, which can raise an error."""
        done = 0
        for _ in range(chance.randint(1, 12)):
            if depth < 3 and chance.random() < 0.15:
                self.deeds_within(book, told, chance, depth)
            else:
                done += self.one_deed(book, told, chance)
        return done

    def deeds_within(self, book, told, chance, depth):
        """Drawn deeds within a call; an error of it takes all of them back."""
        held = told.copied()
        fails = chance.random() < 0.4
        error = chance.choice([KeyError, errors.NoTrial, Stop])
        result = object()

        def call():
            told.begin()
            told.floor = len(told.trials)
            self.look_at(book, told)
            self.some_deeds(book, told, chance, depth + 1)
            if fails:
                raise error()
            return result
        if fails:
            with self.assertRaises(error):
                book.within(call)
            told.restored(held)
        else:
            self.assertIs(book.within(call), result)
            told.floor = held[2]
            while len(told.trials) > len(held[1]):
                told.keep()
        self.look_at(book, told)


def endless_from(above, below):
    """Is endless on the numbers with so many figures or more, above 0 and below 0; never from 4 on."""
    keep = ((1, 0, 0),)
    modes = []
    for at, name in enumerate("abc"):
        thens = ["never" if at + 1 == many else "abca"[at + 1] for many in (above, below)]
        rows = [(1, None, keep, thens[0]), (-1, None, keep, thens[1]), (None, None, keep, None)]
        modes.append((name, "zero", rows))
    return Program(10, [("r", 0)], [*modes, ("never", "zero", [(None, None, keep, "never")])], [], (1, 0))


class Stop(BaseException):
    """An error that is below none of the usual ones."""


class DrawnDeedsTest(BookCase):
    def test_beside_a_book_that_copies(self):
        chance = random.Random(1)
        done = 0
        for _ in range(60):
            book, told = Book(), ToldBook()
            for name in chance.sample(NAMES, 3):
                program = chance.choice(programs()[:5])
                book[name] = program
                told.put(name, program)
            for _ in range(4):
                done += self.some_deeds(book, told, chance)
        self.assertGreater(done, 700)


class NamesTest(BookCase):
    def test_the_order_of_names(self):
        book = Book()
        self.assertEqual([book.names(), len(book), book.guards(), book.depth], [[], 0, [], 0])
        for name in ("c", "a", "b"):
            book[name] = sums()
        book.set_program(name="c", program=turned())
        self.assertEqual([book.names(), book["c"], len(book)], [["c", "a", "b"], turned(), 3])
        self.assertIsNone(book.remove(name="a"))
        book["a"] = turned()
        self.assertEqual([book.names(), len(book)], [["c", "b", "a"], 3])
        book.names().clear()
        self.assertEqual(book.names(), ["c", "b", "a"])
        book.undo()
        book.undo()
        self.assertEqual(book.names(), ["c", "a", "b"])

    def test_any_value_as_a_name(self):
        book = Book()
        book["a"] = sums()
        self.assertEqual(["a" in book, "b" in book], [True, False])
        for value in [*STRANGE, 5, "A", sums()]:
            self.assertIs(value in book, False)
            self.refused("UnknownName", [value], book.__getitem__, value)
            self.refused("UnknownName", [value], book.remove, value)
        with self.assertRaises(TypeError):
            list(book)

    def test_wrong_names_and_programs(self):
        book = Book()
        for name in [*STRANGE, 5, "A", "a b", "abcdefghi", "a1", "a-", "\u00e4"]:
            if name != "downs":
                for call in (book.set_program, book.__setitem__):
                    self.refused("InvalidName", [name], call, name, None)
                    self.refused("InvalidName", [name], call, name, sums())
        for program in [*STRANGE, 5, "a"]:
            for call in (book.set_program, book.__setitem__):
                self.refused("InvalidProgram", [program], call, "a", program)
        self.assertEqual([book.names(), book.journal()], [[], "end 0"])
        book["abcdefgh"] = sums()
        self.assertEqual(book.names(), ["abcdefgh"])

    def test_unequal_to_other_values(self):
        book = Book()
        for value in [*STRANGE, sums()]:
            self.assertTrue(book != value)
            self.assertFalse(book == value)


class GuardTest(BookCase):
    def book_of(self, **told):
        book = Book()
        for name, program in told.items():
            book[name] = program
        return book

    def test_told_guards(self):
        book = self.book_of(a=sums(), b=mixed(), c=two_registers())
        self.assertEqual(book.guard("alike", "a", "b"), ("alike", "a", "b", None))
        self.assertEqual(book.guard("relation", "c", (3, -1, 0, 0), sign=-1), ("relation", "c", (3, -1, 0, 0), -1))
        self.assertEqual(book.guard("ends", "b", sign=1), ("ends", "b", 1))
        wanted = [("alike", "a", "b", None), ("relation", "c", (3, -1, 0, 0), -1), ("ends", "b", 1)]
        self.assertEqual(book.guards(), wanted)
        book.guards().clear()
        self.assertEqual(book.guards(), wanted)

    def test_a_guard_that_the_book_has(self):
        book = self.book_of(a=sums(), b=mixed())
        book.guard("alike", "a", "b", sign=1)
        book["c"] = sums()
        book.undo()
        text = book.journal()
        self.assertEqual(book.guard("alike", "a", "b", sign=1), ("alike", "a", "b", 1))
        self.assertEqual([book.journal(), book.guards()], [text, [("alike", "a", "b", 1)]])
        book.redo()
        self.assertEqual(book.names(), ["a", "b", "c"])
        # Another sign, or the names the other way round, is another guard.
        book.guard("alike", "a", "b")
        book.guard("alike", "b", "a", sign=1)
        self.assertEqual(len(book.guards()), 3)

    def test_signs(self):
        never_below = sums().under("down")
        book = self.book_of(a=sums(), b=never_below, c=two_registers())
        self.assertEqual(book.guard("alike", "a", "b", sign=1), ("alike", "a", "b", 1))
        self.assertEqual(book.guard("ends", "b", sign=1), ("ends", "b", 1))
        for sign in (None, -1):
            error = error_of(book.guard, "alike", "a", "b", sign=sign)
            self.assertEqual([type(error), error.condition], [errors.Guarded, ("alike", "a", "b", sign)])
            self.assertIn(error.number, range(-9, 0))
            self.assertEqual([type(error.__cause__), error.__cause__.number], [errors.Parted, error.number])
            error = error_of(book.guard, "ends", "b", sign=sign)
            self.assertEqual([error.condition, error.number in range(-9, 0)], [("ends", "b", sign), True])
            self.assertEqual([type(error.__cause__), error.__cause__.number], [errors.Endless, error.number])
        error = error_of(book.guard, "relation", "c", (3, -1, 0, 1))
        self.assertEqual([error.condition, error.number], [("relation", "c", (3, -1, 0, 1), None), 0])
        self.assertEqual([type(error.__cause__), error.__cause__.number], [errors.Broken, 0])
        self.assertEqual(book.guards(), [("alike", "a", "b", 1), ("ends", "b", 1)])

    def test_numbers_with_the_fewest_figures(self):
        for above, below in [(1, 3), (3, 1), (2, 3), (3, 2), (2, 2)]:
            book = self.book_of(a=endless_from(above, below), b=endless_from(4, 4), c=sums())
            for sign, wanted in [(1, above), (-1, below), (None, min(above, below))]:
                error = error_of(book.guard, "ends", "a", sign=sign)
                self.assertEqual([type(error), type(error.__cause__)], [errors.Guarded, errors.Endless])
                self.assertEqual([figures_in(error.number, 10), error.__cause__.number], [wanted, error.number])
                self.assertTrue(sign is None or (error.number > 0) == (sign == 1))
                error = error_of(book.guard, "alike", "b", "a", sign=sign)
                self.assertEqual([figures_in(error.number, 10), type(error.__cause__)], [wanted, errors.Parted])
                self.assertEqual(error_of(book.guard, "ends", "b", sign=sign), None)

    def test_the_earliest_broken_guard(self):
        book = self.book_of(a=sums(), b=mixed(), c=two_registers())
        guards = [("ends", "a", 1), ("alike", "b", "c", None), ("alike", "a", "b", None), ("ends", "a", None),
                  ("relation", "a", (1, 0, 0), -1)]
        book["c"] = sums()
        for guard in guards[:4]:
            book.guard(*guard[:-1], sign=guard[-1])
        text = book.journal()
        error = error_of(book.set_program, "a", sums().under("down"))
        self.assertEqual([error.condition, error.number in range(-9, 0)], [guards[2], True])
        error = error_of(book.set_program, "a", sums().changed(ends=()))
        self.assertEqual([error.condition, error.number], [guards[0], 0])
        error = error_of(book.set_program, "b", turned())
        self.assertEqual(error.condition, guards[1])
        self.assertEqual([book.journal(), book["a"], book["b"], book.guards()], [text, sums(), mixed(), guards[:4]])

    def test_another_size_and_another_number_of_registers(self):
        book = self.book_of(a=sums(), b=mixed(), c=two_registers())
        book.guard("alike", "a", "b", sign=1)
        book.guard("relation", "c", (3, -1, 0, 0))
        for name, fields in [("a", [4, 10]), ("b", [10, 4])]:
            error = error_of(book.set_program, name, two_modes())
            self.assertEqual([type(error), error.condition, error.number], [errors.Guarded, ("alike", "a", "b", 1), None])
            self.assertEqual([type(error.__cause__), error.__cause__.one, error.__cause__.other], [errors.Unlike, *fields])
        error = error_of(book.set_program, "c", sums())
        self.assertEqual([error.condition, error.number], [("relation", "c", (3, -1, 0, 0), None), None])
        self.assertEqual([type(error.__cause__), error.__cause__.value], [errors.InvalidForm, (3, -1, 0, 0)])
        book["d"] = two_modes()
        error = error_of(book.guard, "alike", "a", "d")
        self.assertEqual([error.condition, error.number], [("alike", "a", "d", None), None])
        self.assertEqual([error.__cause__.one, error.__cause__.other], [10, 4])
        # A base of the same size and another sign is no other size.
        self.assertEqual(error_of(book.set_program, "a", sums().changed(base=-10)).number is None, False)

    def test_removals(self):
        book = self.book_of(a=sums(), b=mixed(), c=two_registers())
        book.guard("ends", "a")
        book.guard("alike", "b", "a")
        for name, guard in [("a", ("ends", "a", None)), ("b", ("alike", "b", "a", None))]:
            error = error_of(book.remove, name)
            self.assertEqual([type(error), error.condition, error.number], [errors.Guarded, guard, None])
            self.assertEqual([error.__cause__, error.__suppress_context__], [None, True])
        book.remove("c")
        book.unguard(("alike", "b", "a", None))
        book.remove("b")
        self.assertEqual(book.names(), ["a"])

    def test_refused_in_order(self):
        book = self.book_of(a=sums(), c=two_registers())
        for kind in [*STRANGE, 5, "Alike", "like"]:
            self.refused("InvalidCommand", [kind], book.guard, kind, None, sign=0)
        for arguments in [(), ("a",), ("a", "a", "a")]:
            self.refused("InvalidCommand", ["alike"], book.guard, "alike", *arguments, sign=0)
            if len(arguments) != 1:
                self.refused("InvalidCommand", ["ends"], book.guard, "ends", *arguments, sign=0)
            self.refused("InvalidCommand", ["relation"], book.guard, "relation", *arguments, sign=0)
        for sign in [*STRANGE[1:], 0, 2, -2]:
            self.refused("InvalidSign", [sign], book.guard, "alike", None, None, sign=sign)
            self.refused("InvalidSign", [sign], book.guard, "relation", "x", "y", sign=sign)
            self.refused("InvalidSign", [sign], book.guard, "ends", "a", sign=sign)
        for value in [*STRANGE, 5, "x"]:
            self.refused("UnknownName", [value], book.guard, "alike", value, "y")
            self.refused("UnknownName", [value], book.guard, "alike", "a", value)
            self.refused("UnknownName", [value], book.guard, "relation", value, None)
            self.refused("UnknownName", [value], book.guard, "ends", value, sign=-1)
        for form in [*STRANGE, (1, 2), (1, 2, 3, 4), [1, 2, 3], (1, 2, True), (1, 2, None), (1, 2, "3")]:
            self.refused("InvalidForm", [form], book.guard, "relation", "a", form)
        self.refused("InvalidForm", [(0, 0, 0)], book.guard, "relation", "c", (0, 0, 0), sign=1)
        self.assertEqual(book.guards(), [])
        with self.assertRaises(TypeError):
            book.guard()

    def test_unguard(self):
        book = self.book_of(a=sums(), b=mixed(), c=two_registers())
        told = [book.guard("alike", "a", "b", sign=1), book.guard("relation", "c", (3, -1, 0, 0), sign=1),
                book.guard("ends", "a"), book.guard("relation", "a", (0, 0, 0))]
        wrong = [*STRANGE, ("alike", "a", "b", True), ("alike", "a", "b", None), ("alike", "b", "a", 1), ["alike", "a", "b", 1],
                 ("relation", "c", (3, -1, False, 0), 1), ("relation", "c", (3, -1, 0, 0), True), ("ends", "a", False),
                 ("relation", "c", [3, -1, 0, 0], 1), ("relation", "c", (3, -1, 0), 1), ("ends", "a"), ("ends", "a", 1),
                 ("relation", "a", (False, 0, 0), None), "ends", 3, ("relation", "a", None, None), (("ends", "a", None),)]
        text = book.journal()
        for value in wrong:
            self.refused("UnknownName", [value], book.unguard, value)
        self.assertEqual([book.guards(), book.journal()], [told, text])
        self.assertIsNone(book.unguard(guard=told[1]))
        self.assertEqual(book.guards(), [told[0], *told[2:]])
        self.refused("UnknownName", [told[1]], book.unguard, told[1])
        book["c"] = sums()
        book.unguard(told[2])
        book.undo()
        self.assertEqual(book.guards(), [told[0], *told[2:]])


class UndoTest(BookCase):
    def test_each_kind_of_change(self):
        book = Book()
        self.refused("NothingToUndo", [], book.undo)
        self.refused("NothingToRedo", [], book.redo)
        book["a"] = sums()
        book["b"] = mixed()
        book.guard("alike", "a", "b")
        book.unguard(("alike", "a", "b", None))
        book.remove("a")
        told = []
        for _ in range(5):
            told.append((book.names(), book.guards()))
            self.assertIsNone(book.undo())
        self.assertEqual(told, [(["b"], []), (["a", "b"], []), (["a", "b"], [("alike", "a", "b", None)]),
                                (["a", "b"], []), (["a"], [])])
        self.refused("NothingToUndo", [], book.undo)
        for wanted in told[::-1]:
            self.assertIsNone(book.redo())
            self.assertEqual((book.names(), book.guards()), wanted)
        self.refused("NothingToRedo", [], book.redo)

    def test_after_a_new_change_nothing_can_be_redone(self):
        book = Book()
        book["a"] = sums()
        book["a"] = turned()
        book.undo()
        self.refused("InvalidName", ["A"], book.set_program, "A", sums())
        book.redo()
        book.undo()
        book["b"] = sums()
        self.refused("NothingToRedo", [], book.redo)
        book.undo()
        self.assertEqual([book.names(), book["a"]], [["a"], sums()])

    def test_an_equal_program_is_a_change(self):
        book = Book()
        book["a"] = mixed()
        book["a"] = in_other_order()
        self.assertEqual(book["a"].rows_of("m"), in_other_order().rows_of("m"))
        book.undo()
        self.assertEqual(book["a"].rows_of("m"), mixed().rows_of("m"))
        book.redo()
        book.undo()
        book.undo()
        self.assertEqual(len(book), 0)


class TrialTest(BookCase):
    def test_keep_counts_as_one_change(self):
        book = Book()
        book["a"] = sums()
        self.assertIsNone(book.begin())
        self.assertEqual(book.depth, 1)
        self.refused("NothingToUndo", [], book.undo)
        book["b"] = sums()
        book["c"] = sums()
        book.undo()
        self.assertIsNone(book.keep())
        self.assertEqual([book.depth, book.names()], [0, ["a", "b"]])
        self.refused("NothingToRedo", [], book.redo)
        book.undo()
        self.assertEqual(book.names(), ["a"])
        book.redo()
        self.assertEqual(book.names(), ["a", "b"])
        self.refused("NoTrial", [], book.keep)
        self.refused("NoTrial", [], book.take_back)

    def test_take_back(self):
        book = Book()
        book["a"] = sums()
        book["b"] = sums()
        book.undo()
        book.begin()
        self.refused("NothingToRedo", [], book.redo)
        book["c"] = turned()
        book.guard("ends", "c")
        self.assertIsNone(book.take_back())
        self.assertEqual([book.names(), book.guards(), book.depth], [["a"], [], 0])
        book.redo()
        self.assertEqual(book.names(), ["a", "b"])

    def test_a_trial_that_leaves_the_book_as_it_was(self):
        def as_before(book):
            book["b"] = turned()
            book.remove("b")

        def same_program(book):
            book["a"] = in_other_order()

        def undone(book):
            book["a"] = turned()
            book.undo()

        for change in (lambda book: None, as_before, same_program, undone):
            book = Book()
            book["a"] = mixed()
            book["c"] = sums()
            book.undo()
            book.begin()
            change(book)
            book.keep()
            self.assertEqual([book.names(), book["a"].rows_of("m")], [["a"], mixed().rows_of("m")])
            book.redo()
            self.assertEqual(book.names(), ["a", "c"])
            book.undo()
            book.undo()
            self.refused("NothingToUndo", [], book.undo)

    def test_another_order_is_a_change(self):
        book = Book()
        book["a"] = sums()
        book["b"] = mixed()
        one, other = book.guard("ends", "a"), book.guard("ends", "b")
        book.begin()
        book.unguard(one)
        book.guard("ends", "a")
        book.keep()
        self.assertEqual(book.guards(), [other, one])
        book.undo()
        self.assertEqual(book.guards(), [one, other])
        book.unguard(one)
        book.begin()
        book.remove("a")
        book["a"] = sums()
        book.keep()
        self.assertEqual(book.names(), ["b", "a"])
        book.undo()
        self.assertEqual(book.names(), ["a", "b"])

    def test_trials_within_trials(self):
        book = Book()
        book.begin()
        book["a"] = sums()
        book.begin()
        book["b"] = sums()
        book.begin()
        book["c"] = sums()
        self.assertEqual(book.depth, 3)
        book.take_back()
        self.assertEqual([book.names(), book.depth], [["a", "b"], 2])
        book.keep()
        book.undo()
        self.assertEqual(book.names(), ["a"])
        book.redo()
        book.undo()
        book.undo()
        self.refused("NothingToUndo", [], book.undo)
        book.redo()
        book.redo()
        book.keep()
        self.assertEqual([book.names(), book.depth], [["a", "b"], 0])
        book.undo()
        self.assertEqual(book.names(), [])


class WithinTest(BookCase):
    def test_results(self):
        book = Book()
        result = []

        def call():
            book["a"] = sums()
            book["b"] = sums()
            return result
        self.assertIs(book.within(call=call), result)
        self.assertEqual([book.names(), book.depth], [["a", "b"], 0])
        book.undo()
        self.assertEqual(book.names(), [])
        self.assertIsNone(book.within(lambda: None))
        book.redo()
        self.assertEqual(book.names(), ["a", "b"])

    def test_errors_of_any_class(self):
        for error in [ValueError, errors.NoTrial, KeyboardInterrupt, Stop, StopIteration, GeneratorExit, SystemExit]:
            book = Book()
            book["a"] = sums()
            book["b"] = sums()
            book.undo()
            book.begin()
            text, told = book.journal(), error()

            def call():
                book["c"] = turned()
                book.begin()
                book.guard("ends", "c")
                raise told
            with self.assertRaises(error) as caught:
                book.within(call)
            self.assertIs(caught.exception, told)
            self.assertEqual([book.journal(), book.depth, book.names(), book.guards()], [text, 1, ["a"], []])
            book.take_back()
            book.redo()
            self.assertEqual(book.names(), ["a", "b"])

    def test_trials_that_are_left_open_are_kept(self):
        book = Book()

        def call():
            book.begin()
            book["a"] = sums()
            book.begin()
            book["b"] = sums()
            return book.depth
        self.assertEqual([book.within(call), book.depth, book.names()], [3, 0, ["a", "b"]])
        book.undo()
        self.assertEqual(book.names(), [])
        lines = book.journal().split("\n")
        self.assertEqual([line for line in lines if line in ("begin", "keep", "undo")],
                         ["begin", "begin", "begin", "keep", "keep", "keep", "undo"])

    def test_only_its_own_trials_can_be_closed(self):
        book = Book()
        book.begin()

        def call():
            for close in (book.keep, book.take_back):
                self.refused("NoTrial", [], close)
            book.begin()
            book["a"] = sums()
            book.take_back()
            book.begin()
            book.keep()
            self.refused("NoTrial", [], book.keep)
            self.refused("NothingToUndo", [], book.undo)
            book.begin()
            self.assertEqual(book.within(inner), 4)
            self.assertEqual(book.depth, 3)
            book.keep()
            self.refused("NoTrial", [], book.take_back)

        def inner():
            for close in (book.keep, book.take_back):
                self.refused("NoTrial", [], close)
            book["b"] = sums()
            return book.depth
        book.within(call)
        self.assertEqual([book.depth, book.names()], [1, ["b"]])
        book.take_back()
        self.assertEqual([book.depth, book.names()], [0, []])

    def test_an_error_of_an_inner_call_that_is_caught(self):
        book = Book()

        def inner():
            book["b"] = sums()
            book.begin()
            raise KeyError()

        def call():
            book["a"] = sums()
            with self.assertRaises(KeyError):
                book.within(inner)
            self.refused("NoTrial", [], book.keep)
            book.begin()
            book.keep()
            return book.names()
        self.assertEqual([book.within(call), book.depth], [["a"], 0])
        self.assertNotIn("put b", book.journal())


if __name__ == "__main__":
    unittest.main()
