import random
import time
import unittest

from twodivisions.books import Book
from twodivisions.printing import format_program
from twodivisions.programs import Program
from twodivisions.replays import read_journal

from tests.samples import STRANGE, Case, some_parts, sums, turned, two_modes
from tests.shelves import ToldBook, closed, error_of, in_other_order, mixed, programs, two_registers
from tests.test_books import NAMES, BookCase


def lines_of(text):
    """The lines of a journal without the last one."""
    return text.split("\n")[:-1]


def sample():
    """A book with deeds of all kinds."""
    book = Book()
    book["a"] = sums()
    book["b"] = mixed()
    book["c"] = two_registers()
    book.guard("alike", "a", "b")
    book.guard("relation", "c", (3, -1, 0, 0), sign=-1)
    book.guard("ends", "b", sign=1)
    book["b"] = in_other_order()
    book.undo()
    book.redo()
    book.undo()
    book.begin()
    book.unguard(("ends", "b", 1))
    book.unguard(("relation", "c", (3, -1, 0, 0), -1))
    book.remove("c")
    book.begin()
    book["d"] = turned()
    book.take_back()
    book.keep()
    book.undo()
    book.begin()
    book["d"] = turned()
    return book


def deeds_of(text):
    """The deeds of a journal, each as a list of its lines."""
    lines = lines_of(text)
    deeds = []
    while lines:
        words = lines[0].split(" ")
        many = 1 + int(words[2]) if words[0] == "put" else 1
        deeds.append(lines[:many])
        lines = lines[many:]
    return deeds


class AgainTest(BookCase):
    def act_alike(self, one, other, chance, many=12):
        """Check that two books act in the same way from now on."""
        self.assertEqual(one.journal(), other.journal())
        for _ in range(many):
            name, program = chance.choice(NAMES), chance.choice(programs())
            calls = [(lambda book: book.undo()), (lambda book: book.redo()), (lambda book: book.keep()),
                     (lambda book: book.take_back()), (lambda book: book.begin()), (lambda book: book.remove(name)),
                     (lambda book: book.set_program(name, program)), (lambda book: book.guard("ends", name)),
                     (lambda book: book.within(book.undo))]
            call = chance.choice(calls)
            errors = [error_of(call, book) for book in (one, other)]
            self.assertEqual(type(errors[0]), type(errors[1]))
            if errors[0] is not None:
                told = [{key: value for key, value in vars(error).items() if not key.startswith("__")} for error in errors]
                self.assertEqual(told[0], told[1])
            self.assertEqual([one.names(), one.guards(), one.depth, one.journal()],
                             [other.names(), other.guards(), other.depth, other.journal()])
            for key in one.names():
                self.assertEqual(format_program(one[key]), format_program(other[key]))

    def test_drawn_books(self):
        chance = random.Random(2)
        for _ in range(25):
            book, told = Book(), ToldBook()
            for name in chance.sample(NAMES, 3):
                program = chance.choice(programs()[:5])
                book[name] = program
                told.put(name, program)
            for _ in range(2):
                self.some_deeds(book, told, chance)
            other = read_journal(text=book.journal())
            self.assertIs(type(other), Book)
            self.look_at(other, told)
            self.act_alike(book, other, chance)

    def test_the_sample(self):
        chance = random.Random(3)
        for _ in range(20):
            book = sample()
            self.act_alike(book, read_journal(book.journal()), chance, 25)

    def test_each_beginning(self):
        deeds = deeds_of(sample().journal())
        for many in range(len(deeds) + 1):
            text = closed([line for deed in deeds[:many] for line in deed])
            self.assertEqual(read_journal(text).journal(), text)

    def test_no_deeds(self):
        book = read_journal("end 0")
        self.assertEqual([book.names(), book.guards(), book.depth, book.journal()], [[], [], 0, "end 0"])

    def test_inside_a_call(self):
        # In the book that is read, the trial of the call is one that can be closed.
        book = Book()

        def call():
            book["a"] = sums()
            other = read_journal(book.journal())
            self.assertEqual([other.depth, other.names()], [1, ["a"]])
            self.refused("NoTrial", [], book.take_back)
            other.take_back()
            self.assertEqual([other.depth, other.names()], [0, []])
        book.within(call)
        self.assertEqual(read_journal(book.journal()).names(), ["a"])

    def test_programs_of_all_kinds(self):
        book = Book()
        for at, parts in enumerate(some_parts(60)):
            book["abcdefgh"[at % 8]] = Program(*parts)
        other = read_journal(book.journal())
        self.assertEqual(other.journal(), book.journal())
        for name in book.names():
            self.assertEqual(format_program(other[name]), format_program(book[name]))

    def test_integers_of_many_digits(self):
        book = Book()
        book["c"] = two_registers()
        big = 10 ** 3998 + 7
        guard = book.guard("relation", "c", (3 * big, -big, 0, 0))
        other = read_journal(book.journal())
        self.assertEqual([other.guards(), other.journal()], [[guard], book.journal()])

    def test_time(self):
        book = Book()
        for at in range(300):
            book["ab"[at % 2]] = two_modes()
            book.begin()
            book.remove("ab"[at % 2])
            book.keep()
        start = time.perf_counter()
        self.assertEqual(read_journal(book.journal()).journal(), book.journal())
        self.assertLess(time.perf_counter() - start, 2)


class RefusedTest(Case):
    def wrong_at(self, at, *deeds):
        """Check that the journal of these lines, with a right last line, is wrong at an index."""
        self.refused("InvalidText", [at], read_journal, closed(deeds))

    def test_no_texts(self):
        for value in [value for value in STRANGE if not isinstance(value, str)] + [5, ["end 0"]]:
            self.refused("InvalidText", [None], read_journal, value)

    def test_the_last_line(self):
        for text in [value for value in STRANGE if isinstance(value, str)]:
            self.refused("InvalidText", [0], read_journal, text)
        for line in ["end 00", "end -0", "end +0", "end 1", "end", "end ", "end 0 ", " end 0", "end  0", "End 0", "end 65521",
                     "end 0 0", "end \u0660", "end x", "0"]:
            self.refused("InvalidText", [0], read_journal, line)
        self.refused("InvalidText", [1], read_journal, "end 0\n")
        text = sample().journal()
        many = len(lines_of(text))
        check = int(text.split(" ")[-1])
        for wrong in [f"end {check + 1}", f"end 0{check}", f"end {check} ", f"end  {check}", f"end {check + 65521}", "end",
                      f"end -{check}", f"end {check}x", "", f"END {check}", f"end\t{check}", f"end {check}\r"]:
            self.refused("InvalidText", [many], read_journal, "\n".join([*lines_of(text), wrong]))
        self.refused("InvalidText", [many + 1], read_journal, text + "\n")
        self.refused("InvalidText", [many - 1], read_journal, "\n".join(lines_of(text)))
        # The last line is checked first.
        self.refused("InvalidText", [1], read_journal, "nothing\nend 0")

    def test_any_character_changed(self):
        chance = random.Random(4)
        text = sample().journal()
        many = len(lines_of(text))
        for _ in range(200):
            at = chance.randrange(len(text) - 12)
            if text[at] != "\n":
                wrong = text[:at] + chr((ord(text[at]) + 1)) + text[at + 1:]
                self.refused("InvalidText", [many], read_journal, wrong)

    def test_each_line_left_out_doubled_exchanged_or_changed(self):
        lines = lines_of(sample().journal())
        starts = []
        for deed in deeds_of(sample().journal()):
            starts.extend([len(starts)] * len(deed))
        for at, line in enumerate(lines):
            for more in [f"{line} 1", f"{line} x", f" {line}", f"{line} ", line.rsplit(" ", 1)[0] + "  0", "", line.upper()]:
                if more != line:
                    self.refused_or_same([*lines[:at], more, *lines[at + 1:]], starts[at])
            self.refused_or_same([*lines[:at], *lines[at + 1:]], starts[at])
            self.refused_or_same([*lines[:at], line, *lines[at:]], starts[at])
            for other in range(at + 1, min(at + 9, len(lines))):
                exchanged = list(lines)
                exchanged[at], exchanged[other] = lines[other], line
                self.refused_or_same(exchanged, starts[at])

    def refused_or_same(self, lines, least):
        """Check that a text is refused, from a line on, or that the book that is read has it as its journal."""
        text = closed(lines)
        error = error_of(read_journal, text)
        if error is None:
            self.assertEqual(read_journal(text).journal(), text)
        else:
            self.assertEqual(type(error).__name__, "InvalidText")
            self.assertIs(type(error.line), int)
            self.assertIn(error.line, range(least, len(lines)))

    def test_words_that_are_no_deeds(self):
        put = f"put a 6\n{format_program(sums())}"
        self.assertEqual(read_journal(closed([put])).names(), ["a"])
        wrong = ["", " ", "undo", "redo", "keep", "back", "take_back", "within", "end 0", "names", "begin ", " begin",
                 "begin 1", "Begin", "put", "put b", "put b 0", "put b -1", "put b 1", "remove b", "remove", "remove a a",
                 "remove  a", "guard", "guard alike", "guard alike a", "guard alike a a", "guard alike a a 1",
                 "guard alike a a None", "guard alike a b *", "guard alike a a * *", "guard ends a", "guard ends b +",
                 "guard ends a + 1", "guard ends  a +", "guard ends a ++", "guard like a a *", "guard relation a",
                 "guard relation a *", "guard relation a * 0 0", "guard relation a * 0 0 0 0", "guard relation a * 1 0 0",
                 "guard relation a * 0 0 -0", "guard relation a * 0 0 00", "guard relation a * 0 0 +0",
                 "guard relation a * 0 0 x", "guard relation a * 0 0  0", "guard relation a 0 0 0", "unguard ends a *",
                 "unguard alike a a *", "unguard", "guard relation b * 0 0 0", "guard relation a * 0 0 1_0", "undo undo"]
        for line in wrong:
            if line != "undo":
                self.wrong_at(7, put, line)
            if line not in ("keep", "back"):
                self.wrong_at(8, put, "begin", line)
        self.wrong_at(0, "undo")
        self.wrong_at(8, put, "undo", "undo")
        self.wrong_at(9, put, "undo", "redo", "redo")

    def test_a_guard_that_the_book_has(self):
        put = f"put a 6\n{format_program(sums())}"
        for line in ["guard ends a *", "guard alike a a +", "guard relation a - 0 0 0"]:
            self.assertEqual(len(read_journal(closed([put, line])).guards()), 1)
            self.wrong_at(8, put, line, line)
            self.wrong_at(9, put, line, f"un{line}", f"un{line}")

    def test_deeds_that_break_guards(self):
        deeds = [f"put a 6\n{format_program(sums())}", f"put b 8\n{format_program(mixed())}", "guard alike a b *"]
        self.assertEqual(len(read_journal(closed(deeds)).guards()), 1)
        self.wrong_at(17, *deeds, f"put a 6\n{format_program(turned())}")
        self.wrong_at(17, *deeds, f"put a 6\n{format_program(sums().under('down'))}", "nonsense")
        self.wrong_at(17, *deeds, "remove b")
        self.wrong_at(17, *deeds, "guard relation a * 1 0 0")

    def test_counts_and_texts_of_programs(self):
        text = format_program(sums())
        for count in ["5", "7", "06", "+6", "6 ", "", "x", "-6", "0", "66", "1000000000", "9" * 5000, "6.0", "\u0666"]:
            self.wrong_at(0, f"put a {count}\n{text}")
            self.wrong_at(0, f"put a {count}\n{text}\nbegin")
        self.wrong_at(0, "put a 6")
        for name in ["A", "", "abcdefghi", "a1"]:
            self.wrong_at(0, f"put {name} 6\n{text}")
        changes = [("base 10", "base 11"), ("base 10", "base 010"), ("base 10", "base"), ("register s", "register S"),
                   ("register s 0", "register s 1000001"), ("zero", "sideways"), ("* * m", "* 10 m"), ("* * m", "* * n"),
                   ("* * m 1", "* * m 01"), ("* * m 1 1 0", "* * m 1 1"), ("ends 0", "ends 0 0"), ("ends 0", "ends -0"),
                   ("result 1 0", "result 1"), ("result 1 0", "result 1 0 "), ("mode m", "mode  m"), ("* * m", "1 * m"),
                   ("ends 0", "ends 1 0"), ("* * m", "- 1 m"), ("result 1 0", "result 1 1000001")]
        for one, other in changes:
            self.assertIn(one, text)
            self.wrong_at(1, f"begin\nput a 6\n{text.replace(one, other)}")
        self.wrong_at(0, f"put a 7\n{text}\n")
        self.wrong_at(0, f"put a 7\n\n{text}")

    def test_the_first_wrong_deed(self):
        put = f"put a 6\n{format_program(sums())}"
        self.wrong_at(7, put, "keep", "nonsense", "")
        self.wrong_at(8, put, "begin", "", "keep")
        self.wrong_at(9, put, "begin", "keep", "keep")


if __name__ == "__main__":
    unittest.main()
