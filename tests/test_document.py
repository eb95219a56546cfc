import doctest
import importlib
import inspect
import unittest

from tests.samples import STRANGE, Case, sums, turned, two_modes

EXAMPLES = """
>>> from twodivisions.rules import carry, divide
>>> [divide(rule, -7, 2) for rule in ['down', 'up', 'zero', 'positive', 'near']]
[(-4, 1), (-3, -1), (-3, -1), (-4, 1), (-4, 1)]
>>> [divide('down', 7, -2), divide('near', 6, -4), carry('down', -1, 10, 7)]
[(-4, -1), (-1, 2), (1, 3)]

>>> from twodivisions.programs import Program
>>> step = ((10, 1, 0),)
>>> turned = Program(10, [('r', 0)], [('m', 'zero', [(None, None, step, 'm')])], [0], (1, 0))
>>> [turned(123), turned(-120), turned.under('down')(123), turned['m', 1, 3]]
[321, -21, 321, (((10, 1, 0),), 'm')]

>>> from twodivisions.comparing import parted
>>> total = ((1, 1, 0),)
>>> sums = Program(10, [('s', 0)], [('m', 'zero', [(None, None, total, 'm')])], [0], (1, 0))
>>> [parted(sums, sums.under('down'), sign=1), parted(sums, sums.under('down')) in range(-9, 0)]
[None, True]

>>> from twodivisions.corrections import Corrections
>>> rows = [(None, None, ((1, 1, 0),), 'm')]
>>> sums = Program(10, [('s', 0)], [('m', 'zero', rows), ('n', 'zero', rows)], [0], (1, 0))
>>> Corrections(sums, 'down').least()
[('m',)]
"""

# For each file its functions and classes; for each class the parameters with which it is made (None if the package
# makes its objects) and its methods with their parameters, and its properties.
FUNCTIONS = {
    "rules": ["rule_names()", "divide(rule, x, base)", "carry(rule, sign, base, figure)"],
    "printing": ["format_program(program)"],
    "texts": ["parse_program(text)"],
    "running": ["run(program, number)"],
    "figures": ["figures_of(number, size)", "number_of(sign, figures, size)", "standings(program, number)"],
    "machines": ["zero_row(program)"],
    "comparing": ["parted(one, other, *, sign=None, modulus=1, remainder=0)",
                  "require_alike(one, other, *, sign=None, modulus=1, remainder=0)", "figure_bound(one, other)"],
    "papers": ["agreement_paper(one, other)", "check_agreement(one, other, paper)"],
    "corrections": ["check_corrections(program, rule, paper)"],
    "relationpapers": ["check_relation(program, form, paper, *, sign=None)"],
    "linear": ["determinant(table)", "machine_value(machine, word)"],
    "least": ["word_value(program, sign, word)", "differing_word(program, sign, machine)"],
    "great": ["great_ends(program, great)", "great_registers(program, great, *, modulus)",
              "great_result(program, great, *, modulus)"],
    "journals": ["check_number(text)"],
    "replays": ["read_journal(text)"],
}
CLASSES = {
    "wholes.Desk": ["__init__(self, rule='down')", "set_rule(self, rule)", "make(self, value)", "using(self, rule)",
                    "within(self, rule, call)", "rule ="],
    "wholes.Whole": ["parts(self, other)", "amount", "__floordiv__", "__mod__", "__rfloordiv__", "__rmod__",
                     "__ifloordiv__", "__imod__", "__eq__"],
    "programs.Program": ["__init__(self, base, registers, modes, ends, result)", "registers(self)", "modes(self)",
                         "rule_of(self, mode)", "rows_of(self, mode)", "changed(self, *, base=None, ends=None, result=None)",
                         "with_rule(self, mode, rule)", "under(self, rule)",
                         "with_row(self, mode, sign, remainder, updates, then)", "base", "size", "ends", "result",
                         "__getitem__", "__call__(self, number)", "__eq__"],
    "running.Run": ["rounds(self)", "registers(self, at)", "ring(self)", "how", "result", "last", "__len__", "__iter__",
                    "__eq__"],
    "machines.Machine": ["__init__(self, program, sign)", "first(self)", "states(self)", "step(self, state, figure)",
                         "tail(self, state, figure)", "__call__(self, figures)"],
    "endless.EndlessNumbers": ["__init__(self, program)", "count(self, figures, sign)", "least(self, sign)",
                               "numbers(self, figures)", "is_empty(self)", "__contains__", "__le__"],
    "ratios.Ratio": ["__init__(self, top, bottom=1)", "over(self, other)", "top", "bottom", "__add__", "__sub__", "__mul__",
                     "__radd__", "__rsub__", "__rmul__", "__neg__", "__lt__", "__le__", "__gt__", "__ge__", "__eq__"],
    "rows.Row": ["__init__(self, *entries)", "dot(self, form)", "is_zero(self)", "__getitem__", "__len__", "__add__",
                 "__sub__", "__mul__", "__rmul__", "__eq__"],
    "spans.Span": ["__init__(self, width)", "added(self, row)", "parts(self, row)", "rows(self)", "forms(self)", "width",
                   "rank", "__contains__", "__le__", "__eq__"],
    "corrections.Corrections": ["__init__(self, program, rule)", "moved(self, kept)", "parting(self, kept)", "least(self)",
                                "paper(self)"],
    "relations.Relations": ["__init__(self, program, *, sign=None)", "forms(self)", "broken(self, form)", "recover(self)",
                            "paper(self)", "__len__", "__contains__", "__le__"],
    "least.LeastMachine": ["__init__(self, program, sign)", "heads(self)", "tails(self)", "machine(self)",
                           "check_heads(program, sign, heads, tails)", "entries", "__call__(self, word)"],
    "great.GreatNumber": ["__init__(self, size, sign, *pieces)", "from_pieces(cls, size, sign, pieces)", "pieces(self)",
                          "remainder(self, modulus)", "plain(self)", "base_size", "number_sign", "figures", "__getitem__",
                          "__eq__", "__lt__", "__lshift__", "__neg__", "__abs__"],
    "drafts.Draft": ["__init__(self, program)", "current(self)", "set_row(self, mode, sign, remainder, updates, then)",
                     "site(self, mode)", "set_rule(self, mode, rule)", "set_ends(self, ends)", "change_base(self, base)",
                     "change_result(self, result)", "undo(self)", "trial(self)", "within(self, call)", "parting(self)",
                     "end_numbers =", "many", "__getitem__", "__setitem__"],
    "drafts.Site": ["__init__(self, draft, mode)", "set_to(self, rule)", "rule ="],
    "books.Book": ["__init__(self)", "set_program(self, name, program)", "names(self)", "remove(self, name)",
                   "guard(self, kind, *arguments, sign=None)", "guards(self)", "unguard(self, guard)", "undo(self)",
                   "redo(self)", "begin(self)", "keep(self)", "take_back(self)", "within(self, call)", "journal(self)",
                   "depth", "__getitem__", "__setitem__", "__contains__", "__len__"],
    "console.Console": ["__init__(self, book)", "__call__(self, line)", "answers(self, lines)"],
}


def module_of(name):
    return importlib.import_module(f"twodivisions.{name}")


class ExamplesTest(Case):
    def test_examples(self):
        test = doctest.DocTestParser().get_doctest(EXAMPLES, {}, "examples", None, 0)
        self.assertEqual(doctest.DocTestRunner(verbose=False).run(test).failed, 0)


class InterfaceTest(Case):
    def test_functions(self):
        for file, told in FUNCTIONS.items():
            for wanted in told:
                function = getattr(module_of(file), wanted.split("(")[0])
                self.assertTrue(inspect.isfunction(function))
                self.assertEqual(function.__module__, f"twodivisions.{file}")
                self.assertEqual(function.__name__ + str(inspect.signature(function)), wanted)

    def test_classes(self):
        for place, told in CLASSES.items():
            file, name = place.split(".")
            own = getattr(module_of(file), name)
            self.assertEqual([own.__module__, own.__name__], [f"twodivisions.{file}", name])
            for wanted in told:
                self.look_at(own, wanted)

    def look_at(self, own, wanted):
        """Check that a class itself has a method or a property."""
        name = wanted.removesuffix(" =").split("(")[0]
        part = vars(own)[name]
        if isinstance(part, (staticmethod, classmethod)):
            part = part.__func__
        if "(" in wanted:
            self.assertEqual(name + str(inspect.signature(part)), wanted)
        elif not name.startswith("__"):
            self.assertIsInstance(part, property)
            self.assertEqual(part.fset is not None, wanted.endswith(" ="))

    def test_static_and_class_methods(self):
        least, great = module_of("least").LeastMachine, module_of("great").GreatNumber
        self.assertIsInstance(vars(least)["check_heads"], staticmethod)
        self.assertIsInstance(vars(great)["from_pieces"], classmethod)
        self.assertTrue(inspect.isgeneratorfunction(module_of("endless").EndlessNumbers.numbers))
        self.assertTrue(inspect.isgeneratorfunction(module_of("console").Console.answers))


class Hostile:
    """A value that cannot be compared, hashed, tested, measured or iterated."""

    def fail(self, *values):
        raise AssertionError("the value was asked for something")

    __eq__ = __ne__ = __hash__ = __bool__ = __len__ = __iter__ = __contains__ = __getitem__ = __lt__ = __le__ = fail
    __index__ = __int__ = __abs__ = __add__ = __radd__ = __mul__ = __rmul__ = __mod__ = __call__ = fail


def objects():
    """An object of each class."""
    from twodivisions.great import GreatNumber
    from twodivisions.ratios import Ratio
    from twodivisions.rows import Row
    from twodivisions.running import run
    from twodivisions.wholes import Desk
    told = [Desk(), Desk().make(1), turned(), run(turned(), 1), Ratio(1), Row(1), module_of("spans").Span(1),
            GreatNumber(10, 1, ((1,), 1)), module_of("machines").Machine(turned(), 1),
            module_of("endless").EndlessNumbers(turned()), module_of("corrections").Corrections(turned(), "up"),
            module_of("relations").Relations(turned()), module_of("least").LeastMachine(turned(), 1),
            module_of("drafts").Draft(turned()), module_of("drafts").Draft(turned()).site("m"), module_of("books").Book(),
            module_of("console").Console(module_of("books").Book())]
    return told


class AnyValueTest(Case):
    def test_objects_are_unequal_to_values_of_other_kinds(self):
        told = objects()
        for at, one in enumerate(told):
            for other in [*STRANGE, 1, (1,), *told[:at], *told[at + 1:]]:
                self.assertEqual([one == other, one != other, other == one, other != one], [False, True, False, True])

    def asked(self, name, call, *values, **named):
        """Check that a call with a hostile value raises an error that has it as its value."""
        with self.assertRaises(getattr(module_of("errors"), name)) as caught:
            call(*values, **named)
        for told in vars(caught.exception).values():
            self.assertTrue(told is None or isinstance(told, (Hostile, int, str, tuple, list)), told)

    def test_values_that_cannot_be_asked_for_anything(self):
        bad, sign, good = Hostile(), 1, sums()
        rules, programs, figures, running = (module_of(name) for name in ("rules", "programs", "figures", "running"))
        wholes, texts, machines = (module_of(name) for name in ("wholes", "texts", "machines"))
        endless, ratios, rows, spans = (module_of(name) for name in ("endless", "ratios", "rows", "spans"))
        comparing, papers, corrections = (module_of(name) for name in ("comparing", "papers", "corrections"))
        relations, linear, least = (module_of(name) for name in ("relations", "linear", "least"))
        great, books, drafts = (module_of(name) for name in ("great", "books", "drafts"))
        self.asked("InvalidRule", rules.divide, bad, 1, 2)
        self.asked("InvalidNumber", rules.divide, "up", bad, 2)
        self.asked("InvalidBase", rules.divide, "up", 1, bad)
        self.asked("InvalidSign", rules.carry, "up", bad, 2, 1)
        self.asked("InvalidNumber", rules.carry, "up", 1, 2, bad)
        self.asked("InvalidRule", wholes.Desk, bad)
        self.asked("InvalidRule", wholes.Desk().using, bad)
        self.asked("InvalidNumber", wholes.Desk().make, bad)
        parts = [10, [("s", 0)], [("m", "zero", [(None, None, ((1, 1, 0),), "m")])], [0], (1, 0)]
        names = ["InvalidBase", "InvalidRegisters", "InvalidModes", "InvalidEnds", "InvalidResult"]
        for at, name in enumerate(names):
            for value in (bad, (bad,), [bad], ((bad, bad),), (bad, bad, bad)):
                self.asked(name, programs.Program, *parts[:at], value, *parts[at + 1:])
        for row in [bad, (bad,) * 4, (None, bad, ((1, 1, 0),), "m"), (None, None, bad, "m"), (None, None, (bad,), "m"),
                    (None, None, ((1, 1, bad),), "m"), (None, None, ((1, 1, 0),), bad)]:
            self.asked("InvalidRow", programs.Program, 10, parts[1], [("m", "zero", [row])], [0], (1, 0))
        self.asked("UnknownName", good.__getitem__, (bad, bad, bad))
        self.asked("InvalidSign", good.__getitem__, ("m", bad, bad))
        self.asked("InvalidNumber", good.__getitem__, ("m", 1, bad))
        self.asked("InvalidNumber", good, bad)
        self.asked("InvalidRow", good.with_row, "m", bad, bad, bad, bad)
        self.asked("InvalidText", texts.parse_program, bad)
        self.asked("InvalidNumber", running.run, good, bad)
        self.asked("InvalidNumber", running.run(good, 5).registers, bad)
        self.asked("InvalidFigures", figures.number_of, 1, (bad,), 10)
        self.asked("InvalidState", machines.Machine(good, 1).step, (bad, bad, bad), 1)
        self.asked("InvalidState", machines.Machine(good, 1).tail, ("m", 1, bad), 1)
        self.asked("InvalidNumber", machines.Machine(good, 1).step, ("m", 1, 0), bad)
        self.asked("InvalidFigures", machines.Machine(good, 1), (bad,))
        self.assertFalse(bad in endless.EndlessNumbers(good))
        self.asked("InvalidRatio", ratios.Ratio, bad)
        self.asked("InvalidRows", rows.Row, bad)
        self.asked("InvalidForm", rows.Row(1).dot, (bad,))
        self.asked("InvalidRows", spans.Span(1).added, bad)
        self.assertFalse(bad in spans.Span(1))
        self.assertIsNone(spans.Span(1).parts(bad))
        self.asked("InvalidProgram", comparing.parted, good, bad)
        self.asked("InvalidSign", comparing.parted, good, good, sign=bad)
        self.asked("InvalidNumber", comparing.parted, good, good, modulus=bad)
        self.asked("InvalidNumber", comparing.parted, good, good, remainder=bad)
        paper = papers.agreement_paper(good, good)
        for wrong in self.with_one_part(paper, bad):
            self.assertFalse(papers.check_agreement(good, good, wrong))
        self.asked("UnknownName", corrections.Corrections(good, "up").moved, (bad,))
        paper = corrections.Corrections(good, "up").paper()
        for wrong in self.with_one_part(paper, bad):
            self.assertIsNone(corrections.check_corrections(good, "up", wrong))
        check = module_of("relationpapers").check_relation
        for wrong in self.with_one_part(relations.Relations(good).paper(), bad):
            self.assertFalse(check(good, (0, 0, 0), wrong))
        self.asked("InvalidForm", check, good, (bad, bad, bad), None)
        for wrong in self.with_one_part(((1, 2), (3, 4)), bad):
            self.asked("InvalidRows", linear.determinant, wrong)
        told = least.LeastMachine(good, sign)
        for wrong in self.with_one_part(told.machine(), bad):
            self.asked("InvalidMachine", least.differing_word, good, 1, wrong)
            self.asked("InvalidMachine", linear.machine_value, wrong, ())
        self.asked("InvalidFigures", linear.machine_value, told.machine(), (bad,))
        for wrong in self.with_one_part(told.heads(), bad):
            self.assertFalse(told.check_heads(good, 1, wrong, told.tails()))
        self.asked("InvalidFigures", told, (1, bad))
        for wrong in [bad, (bad,), ((bad,), 1), ((1,), bad), (bad, 1)]:
            self.asked("InvalidPieces", great.GreatNumber, 10, 1, wrong)
        self.asked("InvalidPieces", great.GreatNumber.from_pieces, 10, 1, bad)
        self.asked("InvalidNumber", great.GreatNumber(10, 1, ((1,), 1)).__getitem__, bad)
        self.asked("InvalidNumber", great.GreatNumber(10, 1, ((1,), 1)).__lshift__, bad)
        draft = drafts.Draft(two_modes())
        self.asked("InvalidRow", draft.__setitem__, (bad, bad, bad), bad)
        self.asked("UnknownName", draft.site, bad)
        book = books.Book()
        book["a"] = good
        guard = book.guard("relation", "a", (0, 0, 0), sign=1)
        self.assertFalse(bad in book)
        self.asked("InvalidCommand", book.guard, bad)
        self.asked("UnknownName", book.guard, "alike", "a", bad)
        self.asked("InvalidForm", book.guard, "relation", "a", bad)
        for wrong in self.with_one_part(guard, bad):
            self.asked("UnknownName", book.unguard, wrong)
        self.asked("InvalidText", module_of("replays").read_journal, bad)

    def with_one_part(self, value, bad):
        """The values in which one part of a tuple, however deep, is another one."""
        told = [bad]
        for at, part in enumerate(value):
            others = self.with_one_part(part, bad) if isinstance(part, tuple) else [bad]
            told.extend((*value[:at], other, *value[at + 1:]) for other in others[:12])
        return told


if __name__ == "__main__":
    unittest.main()
