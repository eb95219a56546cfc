import inspect
import random
import time
import unittest

from twodivisions import errors
from twodivisions.books import Book
from twodivisions.comparing import parted
from twodivisions.console import Console
from twodivisions.least import LeastMachine
from twodivisions.programs import Program
from twodivisions.relations import Relations

from tests.oracles import with_parts
from tests.samples import Case, play, some_parts, sums, turned, two_modes
from tests.shelves import error_of, mixed, two_registers


def told_book():
    """A book with some programs."""
    book = Book()
    for name, program in [("sums", sums()), ("down", sums().under("down")), ("mixed", mixed()), ("turned", turned()),
                          ("longname", two_modes()), ("t", two_registers())]:
        book[name] = program
    return book


class ConsoleCase(Case):
    def setUp(self):
        self.book = told_book()
        self.console = Console(self.book)

    def answered(self, line, answer):
        self.assertEqual(self.console(line), answer)

    def refused_line(self, name, fields, line):
        """Check that a line raises an error and changes nothing."""
        text = self.book.journal()
        self.refused(name, fields, self.console, line)
        self.assertEqual(self.book.journal(), text)


class AnswersTest(ConsoleCase):
    def test_names_and_table(self):
        self.answered("names", "sums down mixed turned longname t")
        self.answered("table", "sums      10  1  1\ndown      10  1  1\nmixed     10  1  1\nturned    10  1  1\n"
                               "longname  -4  2  2\nt         10  1  2")
        modes = [(name, "up", [(None, None, ((0,) * 5,) * 3, None)]) for name in "abcd"]
        self.book["z"] = Program(-10, [("r", 0), ("s", 0), ("t", 0)], modes, [], (0, 0, 0, 0))
        self.assertEqual(self.console("table").split("\n")[-1], "z        -10  4  3")
        empty = Console(book=Book())
        self.assertEqual([empty("names"), empty(line="table")], ["", ""])

    def test_run(self):
        self.answered("run turned 123", "result 321")
        self.answered("run turned -120", "result -21")
        self.answered("run turned 0", "result 0")
        self.answered("run down -3", "endless")
        self.answered("run sums " + "9" * 60, "result 540")
        self.answered("run sums -" + "9" * 60, "result -540")
        chance = random.Random(1)
        for parts in some_parts(40):
            self.book["p"] = Program(*parts)
            number = chance.choice([chance.randint(-99, 99), chance.randint(-10 ** 59, 10 ** 59)])
            result = play(parts, number)["result"]
            self.answered(f"run p {number}", "endless" if result is None else f"result {result}")

    def test_long_results(self):
        big = 10 ** 6
        rows = [(None, None, ((big, big, big, big, big),) * 3, "m")]
        self.book["b"] = Program(2, [("r", big), ("s", big), ("t", big)], [("m", "zero", rows)], [0], (big, big, big, big))
        number = int("9" * 60)
        self.answered(f"run b {number}", f"result {self.book['b'](number)}")

    def test_alike(self):
        self.answered("alike sums mixed", "alike")
        number = parted(sums(), sums().under("down"))
        self.answered("alike sums down", f"part at {number}")
        self.answered("alike down sums", f"part at {parted(sums().under('down'), sums())}")

    def test_relations_and_least(self):
        for name in self.book.names():
            program = self.book[name]
            self.answered(f"relations {name}", f"relations {len(Relations(program).forms())}")
            for word, sign in (("+", 1), ("-", -1)):
                self.answered(f"least {name} {word}", f"least {LeastMachine(program, sign).entries}")
        self.answered("relations t", "relations 1")
        self.answered("least sums +", "least 3")
        self.answered("least down -", "least 0")

    def test_changes(self):
        self.answered("copy sums new", "put new")
        self.assertEqual([self.book.names()[-1], self.book["new"]], ["new", sums()])
        self.answered("copy turned new", "put new")
        self.assertEqual(self.book["new"], turned())
        self.answered("rule new m down", "put new")
        self.assertEqual(self.book["new"], turned().under("down"))
        self.answered("rule longname even zero", "put longname")
        self.assertEqual(self.book["longname"], two_modes().with_rule("even", "zero"))
        self.answered("undo", "undone")
        self.assertEqual(self.book["longname"], two_modes())
        self.answered("redo", "redone")
        self.assertEqual(self.book["longname"], two_modes().with_rule("even", "zero"))
        self.answered("guard sums mixed", "guarded")
        self.answered("guard sums mixed", "guarded")
        self.assertEqual(self.book.guards(), [("alike", "sums", "mixed", None)])
        self.answered("rule sums m zero", "put sums")

    def test_the_book_itself(self):
        self.console("copy sums new")
        self.book.remove("new")
        self.answered("names", "sums down mixed turned longname t")


class RefusedTest(ConsoleCase):
    def test_unknown_words_and_numbers_of_words(self):
        many = {"names": 0, "table": 0, "run": 2, "alike": 2, "relations": 1, "least": 2, "copy": 2, "rule": 3, "guard": 2,
                "undo": 0, "redo": 0}
        for word, wanted in many.items():
            for words in range(5):
                if words != wanted:
                    self.refused_line("InvalidCommand", [word], " ".join([word] + ["sums"] * words))
            self.refused_line("InvalidCommand", [""], f" {word}")
            self.refused_line("InvalidCommand", [word], " ".join([word] + ["sums"] * wanted) + " ")
            self.refused_line("InvalidCommand", [word.upper()], " ".join([word.upper()] + ["sums"] * wanted))
        for line, word in [("", ""), (" ", ""), ("  ", ""), ("put a", "put"), ("name", "name"), ("begin", "begin"),
                           ("names\n", "names\n"), ("\tnames", "\tnames"), ("remove sums", "remove"), ("run\tsums 5", "run\tsums"),
                           ("keep", "keep"), ("unguard sums mixed", "unguard")]:
            self.refused_line("InvalidCommand", [word], line)

    def test_two_spaces_together(self):
        self.refused_line("InvalidCommand", ["run"], "run  sums 5")
        self.refused_line("UnknownName", [""], "run  5")
        self.refused_line("InvalidNumber", [""], "run sums ")
        self.refused_line("UnknownName", [""], "alike  sums")
        self.refused_line("InvalidName", [""], "copy sums ")

    def test_numbers(self):
        for word in ["", "-", "+5", "05", "-0", "-05", "00", "5.0", "x", "1_000", "\u0665", "\u00b2", "--5", "5-", "1" * 61,
                     "-" + "1" * 61, "0x1", "1e5", "None", "True", "9" * 5000]:
            self.refused_line("InvalidNumber", [word], f"run sums {word}")
            self.refused_line("InvalidNumber", [word], f"run nothing {word}")
        self.refused_line("UnknownName", ["nothing"], "run nothing 5")
        self.refused_line("UnknownName", ["nothing"], "run nothing -" + "1" * 60)

    def test_signs(self):
        for word in ["", "*", "0", "1", "-1", "++", "None", "+-"]:
            self.refused_line("InvalidSign", [word], f"least sums {word}")
            self.refused_line("InvalidSign", [word], f"least nothing {word}")
        self.refused_line("UnknownName", ["nothing"], "least nothing +")

    def test_errors_of_the_functions(self):
        for line, name in [("alike x sums", "x"), ("alike sums y", "y"), ("alike x y", "x"), ("relations x", "x"),
                           ("copy x new", "x"), ("copy x NEW", "x"), ("rule x m down", "x"), ("rule sums n down", "n"),
                           ("rule sums n sideways", "n"), ("guard x sums", "x"), ("guard sums y", "y"), ("guard y x", "y")]:
            self.refused_line("UnknownName", [name], line)
        self.refused_line("Unlike", [10, 4], "alike sums longname")
        self.refused_line("InvalidName", ["NEW"], "copy sums NEW")
        self.refused_line("InvalidName", ["toolonged"], "copy sums toolonged")
        self.refused_line("InvalidRule", ["sideways"], "rule sums m sideways")
        console = Console(Book())
        self.refused("NothingToUndo", [], console, "undo")
        self.refused("NothingToRedo", [], console, "redo")

    def test_guards(self):
        self.console("guard sums mixed")
        guard = ("alike", "sums", "mixed", None)
        text = self.book.journal()
        for line in ["rule sums m down", "copy turned mixed", "copy down sums", "guard sums down", "guard sums longname",
                     "copy longname sums"]:
            error = error_of(self.console, line)
            self.assertIs(type(error), errors.Guarded)
            wanted = ("alike", *line.split(" ")[1:], None) if line.startswith("guard") else guard
            self.assertEqual([error.condition, self.book.journal()], [wanted, text])
            self.assertIs(type(error.__cause__), errors.Unlike if "longname" in line else errors.Parted)


class LinesTest(ConsoleCase):
    def test_answers(self):
        lines = ["names", "run sums 12", "nothing", "run sums 012", "", "least sums *", "copy sums new", "rule new n up",
                 "rule new m sideways", "alike sums longname", "guard sums new", "rule new m down", "copy sums NEW",
                 "redo", "undo", "undo", "names", "redo", "alike new x"]
        told = list(self.console.answers(lines=lines))
        self.assertEqual(told, [
            "sums down mixed turned longname t", "result 3", "refused", "refused", "refused", "refused", "put new", "refused",
            "refused", "refused", "guarded", "refused", "refused", "refused", "undone", "undone",
            "sums down mixed turned longname t", "redone", "refused"])
        self.assertEqual(len(lines), 19)
        self.assertEqual(list(Console(Book()).answers(["undo", "names"])), ["refused", ""])

    def test_a_generator(self):
        answers = self.console.answers(["copy sums one", "copy sums two"])
        self.assertTrue(inspect.isgenerator(answers))
        self.assertNotIn("one", self.book)
        self.assertEqual(next(answers), "put one")
        self.assertEqual(["one" in self.book, "two" in self.book], [True, False])
        self.assertEqual(next(answers), "put two")
        with self.assertRaises(StopIteration):
            next(answers)
        self.assertEqual(list(self.console.answers([])), [])

    def test_beside_single_lines(self):
        chance = random.Random(2)
        words = ["names", "run", "sums", "down", "mixed", "t", "5", "-7", "+", "-", "copy", "rule", "m", "near", "guard",
                 "undo", "redo", "least", "alike", "relations", "table", ""]
        lines = [" ".join(chance.choice(words) for _ in range(chance.randint(1, 4))) for _ in range(3000)]
        other = Console(told_book())
        told = list(self.console.answers(lines))
        for line, answer in zip(lines, told, strict=True):
            try:
                wanted = other(line)
            except (ValueError, LookupError, RuntimeError) as error:
                self.assertEqual(type(error).__module__, errors.__name__)
                wanted = "refused"
            self.assertEqual(answer, wanted)
        self.assertGreater(len([answer for answer in told if answer != "refused"]), 100)


class TimeTest(ConsoleCase):
    def test_four_modes_three_registers(self):
        chance = random.Random(3)
        self.book["p"] = Program(*with_parts(-10, "abcd", chance, 3, 1, 10 ** 6))
        self.book["q"] = self.book["p"].changed(base=10)
        for line in ["run p " + "7" * 60, "alike p q", "relations p", "least p +", "least q -", "copy p r", "guard p r"]:
            start = time.perf_counter()
            self.console(line)
            self.assertLess(time.perf_counter() - start, 2)


if __name__ == "__main__":
    unittest.main()
