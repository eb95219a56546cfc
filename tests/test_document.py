import doctest
import importlib
import inspect
import unittest

from tests.samples import Case

EXAMPLES = """
>>> from twodivisions.rules import carry, divide
>>> [divide(rule, -7, 2) for rule in ['down', 'up', 'zero', 'positive', 'near']]
[(-4, 1), (-3, -1), (-3, -1), (-4, 1), (-4, 1)]
>>> [divide('down', 7, -2), divide('near', 6, -4), carry('down', -1, 10, 7)]
[(-4, -1), (-1, 2), (1, 3)]

>>> from twodivisions.programs import Program
>>> step = ((10, 1, 0),)
>>> turned = Program(10, [('r', 0)], [('m', 'zero', [(None, None, step, 'm')])], [0], (1, 0))
>>> [turned(123), turned(-120), turned.under('down')(123), turned['m', 1, 3]]
[321, -21, 321, (((10, 1, 0),), 'm')]

>>> from twodivisions.comparing import parted
>>> total = ((1, 1, 0),)
>>> sums = Program(10, [('s', 0)], [('m', 'zero', [(None, None, total, 'm')])], [0], (1, 0))
>>> [parted(sums, sums.under('down'), sign=1), parted(sums, sums.under('down')) in range(-9, 0)]
[None, True]

>>> from twodivisions.corrections import Corrections
>>> rows = [(None, None, ((1, 1, 0),), 'm')]
>>> sums = Program(10, [('s', 0)], [('m', 'zero', rows), ('n', 'zero', rows)], [0], (1, 0))
>>> Corrections(sums, 'down').least()
[('m',)]
"""

# For each file its functions and classes; for each class the parameters with which it is made (None if the package
# makes its objects) and its methods with their parameters, and its properties.
FUNCTIONS = {
    "rules": ["rule_names()", "divide(rule, x, base)", "carry(rule, sign, base, figure)"],
    "printing": ["format_program(program)"],
    "texts": ["parse_program(text)"],
    "running": ["run(program, number)"],
    "figures": ["figures_of(number, size)", "number_of(sign, figures, size)", "standings(program, number)"],
    "machines": ["zero_row(program)"],
    "comparing": ["parted(one, other, *, sign=None, modulus=1, remainder=0)",
                  "require_alike(one, other, *, sign=None, modulus=1, remainder=0)", "figure_bound(one, other)"],
    "papers": ["agreement_paper(one, other)", "check_agreement(one, other, paper)"],
    "corrections": ["check_corrections(program, rule, paper)"],
    "relationpapers": ["check_relation(program, form, paper, *, sign=None)"],
    "linear": ["determinant(table)", "machine_value(machine, word)"],
    "least": ["word_value(program, sign, word)", "differing_word(program, sign, machine)"],
    "great": ["great_ends(program, great)", "great_registers(program, great, *, modulus)",
              "great_result(program, great, *, modulus)"],
    "journals": ["check_number(text)"],
    "replays": ["read_journal(text)"],
}
CLASSES = {
    "wholes.Desk": ["__init__(self, rule='down')", "set_rule(self, rule)", "make(self, value)", "using(self, rule)",
                    "within(self, rule, call)", "rule ="],
    "wholes.Whole": ["parts(self, other)", "amount", "__floordiv__", "__mod__", "__rfloordiv__", "__rmod__",
                     "__ifloordiv__", "__imod__", "__eq__"],
    "programs.Program": ["__init__(self, base, registers, modes, ends, result)", "registers(self)", "modes(self)",
                         "rule_of(self, mode)", "rows_of(self, mode)", "changed(self, *, base=None, ends=None, result=None)",
                         "with_rule(self, mode, rule)", "under(self, rule)",
                         "with_row(self, mode, sign, remainder, updates, then)", "base", "size", "ends", "result",
                         "__getitem__", "__call__(self, number)", "__eq__"],
    "running.Run": ["rounds(self)", "registers(self, at)", "ring(self)", "how", "result", "last", "__len__", "__iter__",
                    "__eq__"],
    "machines.Machine": ["__init__(self, program, sign)", "first(self)", "states(self)", "step(self, state, figure)",
                         "tail(self, state, figure)", "__call__(self, figures)"],
    "endless.EndlessNumbers": ["__init__(self, program)", "count(self, figures, sign)", "least(self, sign)",
                               "numbers(self, figures)", "is_empty(self)", "__contains__", "__le__"],
    "ratios.Ratio": ["__init__(self, top, bottom=1)", "over(self, other)", "top", "bottom", "__add__", "__sub__", "__mul__",
                     "__radd__", "__rsub__", "__rmul__", "__neg__", "__lt__", "__le__", "__gt__", "__ge__", "__eq__"],
    "rows.Row": ["__init__(self, *entries)", "dot(self, form)", "is_zero(self)", "__getitem__", "__len__", "__add__",
                 "__sub__", "__mul__", "__rmul__", "__eq__"],
    "spans.Span": ["__init__(self, width)", "added(self, row)", "parts(self, row)", "rows(self)", "forms(self)", "width",
                   "rank", "__contains__", "__le__", "__eq__"],
    "corrections.Corrections": ["__init__(self, program, rule)", "moved(self, kept)", "parting(self, kept)", "least(self)",
                                "paper(self)"],
    "relations.Relations": ["__init__(self, program, *, sign=None)", "forms(self)", "broken(self, form)", "recover(self)",
                            "paper(self)", "__len__", "__contains__", "__le__"],
    "least.LeastMachine": ["__init__(self, program, sign)", "heads(self)", "tails(self)", "machine(self)",
                           "check_heads(program, sign, heads, tails)", "entries", "__call__(self, word)"],
    "great.GreatNumber": ["__init__(self, size, sign, *pieces)", "from_pieces(cls, size, sign, pieces)", "pieces(self)",
                          "remainder(self, modulus)", "plain(self)", "base_size", "number_sign", "figures", "__getitem__",
                          "__eq__", "__lt__", "__lshift__", "__neg__", "__abs__"],
    "drafts.Draft": ["__init__(self, program)", "current(self)", "set_row(self, mode, sign, remainder, updates, then)",
                     "site(self, mode)", "set_rule(self, mode, rule)", "set_ends(self, ends)", "change_base(self, base)",
                     "change_result(self, result)", "undo(self)", "trial(self)", "within(self, call)", "parting(self)",
                     "end_numbers =", "many", "__getitem__", "__setitem__"],
    "drafts.Site": ["__init__(self, draft, mode)", "set_to(self, rule)", "rule ="],
    "books.Book": ["__init__(self)", "set_program(self, name, program)", "names(self)", "remove(self, name)",
                   "guard(self, kind, *arguments, sign=None)", "guards(self)", "unguard(self, guard)", "undo(self)",
                   "redo(self)", "begin(self)", "keep(self)", "take_back(self)", "within(self, call)", "journal(self)",
                   "depth", "__getitem__", "__setitem__", "__contains__", "__len__"],
    "console.Console": ["__init__(self, book)", "__call__(self, line)", "answers(self, lines)"],
}


def module_of(name):
    return importlib.import_module(f"twodivisions.{name}")


class ExamplesTest(Case):
    def test_examples(self):
        test = doctest.DocTestParser().get_doctest(EXAMPLES, {}, "examples", None, 0)
        self.assertEqual(doctest.DocTestRunner(verbose=False).run(test).failed, 0)


class InterfaceTest(Case):
    def test_functions(self):
        for file, told in FUNCTIONS.items():
            for wanted in told:
                function = getattr(module_of(file), wanted.split("(")[0])
                self.assertTrue(inspect.isfunction(function))
                self.assertEqual(function.__module__, f"twodivisions.{file}")
                self.assertEqual(function.__name__ + str(inspect.signature(function)), wanted)

    def test_classes(self):
        for place, told in CLASSES.items():
            file, name = place.split(".")
            own = getattr(module_of(file), name)
            self.assertEqual([own.__module__, own.__name__], [f"twodivisions.{file}", name])
            for wanted in told:
                self.look_at(own, wanted)

    def look_at(self, own, wanted):
        """Check that a class itself has a method or a property."""
        name = wanted.removesuffix(" =").split("(")[0]
        part = vars(own)[name]
        if isinstance(part, (staticmethod, classmethod)):
            part = part.__func__
        if "(" in wanted:
            self.assertEqual(name + str(inspect.signature(part)), wanted)
        elif not name.startswith("__"):
            self.assertIsInstance(part, property)
            self.assertEqual(part.fset is not None, wanted.endswith(" ="))

    def test_static_and_class_methods(self):
        least, great = module_of("least").LeastMachine, module_of("great").GreatNumber
        self.assertIsInstance(vars(least)["check_heads"], staticmethod)
        self.assertIsInstance(vars(great)["from_pieces"], classmethod)
        self.assertTrue(inspect.isgeneratorfunction(module_of("endless").EndlessNumbers.numbers))
        self.assertTrue(inspect.isgeneratorfunction(module_of("console").Console.answers))


if __name__ == "__main__":
    unittest.main()
