import random
import time
import unittest

from twodivisions.books import Book
from twodivisions.journals import check_number
from twodivisions.printing import format_program

from tests.samples import Case, sums, turned, two_modes
from tests.shelves import check_text, closed, error_of, mixed, two_registers


class CheckNumberTest(Case):
    def test_known_numbers(self):
        self.assertEqual([check_number(""), check_number("a"), check_number("ab")], [0, 97, 97 * 257 + 98])
        self.assertEqual([check_number(text="\n"), check_number("zzz")], [10, ((122 * 257 + 122) * 257 + 122) % 65521])
        self.assertEqual(check_number("\U0010ffff"), 0x10ffff % 65521)

    def test_texts_of_any_characters(self):
        chance = random.Random(1)
        for _ in range(200):
            text = "".join(chr(chance.choice([chance.randrange(128), chance.randrange(0x110000), 10]))
                           for _ in range(chance.randrange(60)))
            self.assertEqual(check_number(text), check_text(text))
            self.assertIn(check_number(text), range(65521))

    def test_time(self):
        start = time.perf_counter()
        check_number("x" * 200000)
        self.assertLess(time.perf_counter() - start, 2)


def put(name, program):
    """The lines of a program that is set."""
    text = format_program(program)
    return f"put {name} {len(text.splitlines())}\n{text}"


class JournalTest(Case):
    def look_at(self, book, *deeds):
        self.assertEqual(book.journal(), closed(deeds))

    def test_no_deeds(self):
        self.assertEqual(Book().journal(), "end 0")

    def test_a_journal_word_for_word(self):
        book = Book()
        book["a"] = turned()
        book.guard("ends", "a")
        text = ("put a 6\nbase 10\nregister r 0\nmode m zero\nrow * * m 10 1 0\nends 0\nresult 1 0\n"
                "guard ends a *\n")
        self.assertEqual(book.journal(), f"{text}end {check_text(text)}")

    def test_each_deed(self):
        book = Book()
        book["a"] = sums()
        book.set_program("b", mixed())
        book["longname"] = two_registers()
        book["a"] = sums()
        deeds = [put("a", sums()), put("b", mixed()), put("longname", two_registers()), put("a", sums())]
        self.look_at(book, *deeds)
        book.guard("alike", "a", "b")
        book.guard("alike", "b", "a", sign=1)
        book.guard("alike", "a", "a", sign=-1)
        book.guard("relation", "longname", (3, -1, 0, 0))
        book.guard("relation", "longname", (-30, 10, 0, 0), sign=-1)
        book.guard("ends", "b", sign=1)
        deeds += ["guard alike a b *", "guard alike b a +", "guard alike a a -", "guard relation longname * 3 -1 0 0",
                  "guard relation longname - -30 10 0 0", "guard ends b +"]
        self.look_at(book, *deeds)
        book.unguard(("alike", "b", "a", 1))
        book.unguard(("relation", "longname", (-30, 10, 0, 0), -1))
        book.unguard(("ends", "b", 1))
        book.undo()
        book.redo()
        book.begin()
        book.begin()
        book.keep()
        book.take_back()
        book["c"] = two_modes()
        book.remove("c")
        deeds += ["unguard alike b a +", "unguard relation longname - -30 10 0 0", "unguard ends b +", "undo", "redo",
                  "begin", "begin", "keep", "back", put("c", two_modes()), "remove c"]
        self.look_at(book, *deeds)

    def test_integers_of_many_digits(self):
        book = Book()
        book["c"] = two_registers()
        big = 10 ** 3998 + 7
        book.guard("relation", "c", (3 * big, -big, 0, 0))
        self.look_at(book, put("c", two_registers()), f"guard relation c * {3 * big} {-big} 0 0")

    def test_refused_deeds_have_no_line(self):
        book = Book()
        book["a"] = sums()
        book["b"] = mixed()
        book.guard("alike", "a", "b")
        text = book.journal()
        refused = [
            (book.keep,), (book.take_back,), (book.redo,), (book.remove, "a"), (book.remove, "c"),
            (book.set_program, "a", turned()), (book.set_program, "A", sums()), (book.set_program, "c", None),
            (book.guard, "ends", "c"), (book.guard, "relation", "a", (1, 0, 0)), (book.guard, "like", "a"),
            (book.unguard, ("ends", "a", None)),
        ]
        for call, *arguments in refused:
            self.assertIsNotNone(error_of(call, *arguments))
            self.assertEqual(book.journal(), text)
        # A guard that is there already is no deed.
        book.guard("alike", "a", "b")
        self.assertEqual(book.journal(), text)

    def test_within(self):
        book = Book()

        def call():
            self.look_at(book, "begin")
            book["a"] = sums()
            book.begin()
            self.look_at(book, "begin", put("a", sums()), "begin")

        book.within(call)
        told = ["begin", put("a", sums()), "begin", "keep", "keep"]
        self.look_at(book, *told)

        def fail():
            book["b"] = sums()
            book.begin()
            self.look_at(book, *told, "begin", put("b", sums()), "begin")
            raise KeyError()
        with self.assertRaises(KeyError):
            book.within(fail)
        self.look_at(book, *told)
        book.within(lambda: book.within(lambda: book.undo if book.depth == 2 else None))
        self.look_at(book, *told, "begin", "begin", "keep", "keep")


if __name__ == "__main__":
    unittest.main()
