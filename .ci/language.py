"""Checks those rules of ../shared/LANGUAGE.md that can be counted: files, imports, sizes, names and builtins."""

import ast
import builtins
import pathlib
import re
import sys

PACKAGE = "twodivisions"
LIBRARY = ("heapq", "math", "itertools", "collections")
DECORATORS = ("property", "staticmethod", "classmethod")
BUILTINS = """len range enumerate zip min max sum abs sorted reversed int str bool bytes list tuple dict set frozenset
isinstance ord repr any all divmod pow getattr hasattr setattr iter next map type super property staticmethod
classmethod Exception ValueError TypeError KeyError IndexError LookupError ZeroDivisionError ArithmeticError
OverflowError RuntimeError NotImplementedError AttributeError StopIteration NotImplemented object""".split()
METHODS = """init eq repr str len enter exit call iter lt le gt ge ne add sub mul floordiv mod pow and or xor lshift
rshift radd rsub rmul rfloordiv rmod rand ror rxor rlshift rrshift iadd isub imul ifloordiv imod ipow iand ior ixor
ilshift irshift neg pos invert abs bool contains getitem setitem""".split()
NEVER = "register mro elements open input law version_info with_traceback add_note".split()
WORDS = re.compile(r"dataclass|overload|contextmanager|\b(typing|enum|Enum|Generic|Protocol|ABC|namedtuple)\b|\(type\)|Meta")
UNUSED = (ast.AsyncFunctionDef, ast.Await, ast.AsyncFor, ast.AsyncWith, ast.Import, ast.Div, ast.MatMult, ast.TryStar)


def names_bound(node):
    """The names that a node gives a meaning."""
    if isinstance(node, (ast.FunctionDef, ast.ClassDef)):
        return [node.name]
    if isinstance(node, ast.arg):
        return [node.arg]
    if isinstance(node, ast.Name) and isinstance(node.ctx, ast.Store):
        return [node.id]
    if isinstance(node, ast.ImportFrom):
        return [name.asname or name.name for name in node.names]
    return []


def wrong_imports(node):
    if isinstance(node, ast.ImportFrom):
        if node.level or any(name.name == "*" for name in node.names):
            yield "L2 import"
        if not (node.module or "").startswith(PACKAGE + ".") and node.module not in (*LIBRARY, "__future__"):
            yield f"L2 import from {node.module}"


def wrong_functions(node):
    if isinstance(node, ast.FunctionDef):
        if node.end_lineno - node.lineno >= 40:
            yield f"L10 {node.name} has more than 40 lines"
        for told in node.decorator_list:
            word = told.attr if isinstance(told, ast.Attribute) else getattr(told, "id", None)
            if word not in (*DECORATORS, "setter"):
                yield "L4 decorator"
        if node.name.startswith("__") and node.name[2:-2] not in METHODS:
            yield f"L5 {node.name}"


def wrong_names(node):
    for name in names_bound(node):
        if name in dir(builtins) or name in NEVER:
            yield f"L15 or L17 name {name}"
    if isinstance(node, ast.Attribute) and node.attr in NEVER:
        yield f"L17 attribute {node.attr}"
    if isinstance(node, ast.Name) and node.id in dir(builtins) and node.id not in BUILTINS:
        yield f"L8 builtin {node.id}"
    if isinstance(node, ast.Constant) and isinstance(node.value, (float, complex)):
        yield "L7 float"
    if isinstance(node, UNUSED):
        yield f"L6 or L7 {node.__class__.__name__}"


def wrong_lines(text):
    lines = text.split("\n")
    if len(lines) - 1 > 399:
        yield 0, "L10 more than 399 lines"
    for at, line in enumerate(lines, start=1):
        if len(line) > 120 or "\t" in line:
            yield at, "L10 line"
        if WORDS.search(line):
            yield at, "L17 word"


def wrong_bindings(tree):
    """L15: a parameter or variable has the name of an import or a class of its file."""
    taken = [node.name for node in tree.body if isinstance(node, ast.ClassDef)]
    taken += [name for node in tree.body if isinstance(node, ast.ImportFrom) for name in names_bound(node)]
    for node in ast.walk(tree):
        if isinstance(node, (ast.arg, ast.Name)):
            for name in names_bound(node):
                if name in taken:
                    yield node.lineno, f"L15 name {name}"


def members(paths):
    """The names of all methods, properties and attributes of the package."""
    methods, properties, attributes = set(), set(), set()
    for path in paths:
        for node in ast.walk(ast.parse(path.read_text(encoding="utf-8"))):
            if isinstance(node, ast.ClassDef):
                functions = [part for part in node.body if isinstance(part, ast.FunctionDef)]
                methods |= {part.name for part in functions if not part.decorator_list}
                properties |= {part.name for part in functions if part.decorator_list}
            if isinstance(node, ast.Attribute) and isinstance(node.ctx, ast.Store):
                attributes.add(node.attr)
    return methods, properties, attributes


def wrong_members(paths):
    """L5 and L18: no name is two of a method, a property and an attribute."""
    methods, properties, attributes = members(paths)
    # Desk.rule has a setter, so it is assigned like an attribute.
    for name in sorted(methods & properties | methods & attributes | properties & attributes - {"rule"}):
        yield f"L5 or L18 member {name}"


def wrong_in(path):
    text = path.read_text(encoding="utf-8")
    yield from wrong_lines(text)
    yield from wrong_bindings(ast.parse(text))
    for node in ast.walk(ast.parse(text)):
        for check in (wrong_imports, wrong_functions, wrong_names):
            for what in check(node):
                yield getattr(node, "lineno", 0), what


def main():
    found = []
    for path in sorted(pathlib.Path(PACKAGE).rglob("*")):
        if "__pycache__" in path.parts or path.is_dir():
            continue
        if path.suffix != ".py":
            found.append(f"{path}: L1 no .py file")
        else:
            found.extend(f"{path}:{at}: {what}" for at, what in wrong_in(path))
    found.extend(wrong_members(sorted(pathlib.Path(PACKAGE).glob("*.py"))))
    print("\n".join(found) or "language: nothing found")
    sys.exit(1 if found else 0)


main()
