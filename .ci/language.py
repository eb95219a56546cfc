"""Checks those rules of ../shared/LANGUAGE.md that can be counted: files, imports, sizes, names and builtins."""

import ast
import builtins
import pathlib
import re
import sys

PACKAGE = "twodivisions"
LIBRARY = ("heapq", "math", "itertools", "collections")
DECORATORS = ("property", "staticmethod", "classmethod")
BUILTINS = """len range enumerate zip min max sum abs sorted reversed int str bool bytes list tuple dict set frozenset
isinstance ord repr any all divmod pow getattr hasattr setattr iter next map type super property staticmethod
classmethod Exception ValueError TypeError KeyError IndexError LookupError ZeroDivisionError ArithmeticError
OverflowError RuntimeError NotImplementedError AttributeError StopIteration NotImplemented object""".split()
METHODS = """init eq repr str len enter exit call iter lt le gt ge ne add sub mul floordiv mod pow and or xor lshift
rshift radd rsub rmul rfloordiv rmod rand ror rxor rlshift rrshift iadd isub imul ifloordiv imod ipow iand ior ixor
ilshift irshift neg pos invert abs bool contains getitem setitem""".split()
NEVER = "register mro elements open input law version_info with_traceback add_note".split()
WORDS = re.compile(r"dataclass|overload|contextmanager|\b(typing|enum|Enum|Generic|Protocol|ABC|namedtuple)\b|\(type\)|Meta")
UNUSED = (ast.AsyncFunctionDef, ast.Await, ast.AsyncFor, ast.AsyncWith, ast.Import, ast.Div, ast.MatMult, ast.TryStar)


def names_bound(node):
    """The names that a node gives a meaning."""
    if isinstance(node, (ast.FunctionDef, ast.ClassDef)):
        return [node.name]
    if isinstance(node, ast.arg):
        return [node.arg]
    if isinstance(node, ast.Name) and isinstance(node.ctx, ast.Store):
        return [node.id]
    if isinstance(node, ast.ImportFrom):
        return [name.asname or name.name for name in node.names]
    return []


def wrong_imports(node):
    if isinstance(node, ast.ImportFrom):
        if node.level or any(name.name == "*" for name in node.names):
            yield "L2 import"
        if not (node.module or "").startswith(PACKAGE + ".") and node.module not in (*LIBRARY, "__future__"):
            yield f"L2 import from {node.module}"


def wrong_functions(node):
    if isinstance(node, ast.FunctionDef):
        if node.end_lineno - node.lineno >= 40:
            yield f"L10 {node.name} has more than 40 lines"
        for told in node.decorator_list:
            word = told.attr if isinstance(told, ast.Attribute) else getattr(told, "id", None)
            if word not in (*DECORATORS, "setter"):
                yield "L4 decorator"
        if node.name.startswith("__") and node.name[2:-2] not in METHODS:
            yield f"L5 {node.name}"


def is_plain(node):
    """Whether a node may stand behind a star in a call: a name, an attribute off a name, literals and lists of these."""
    if isinstance(node, (ast.List, ast.Tuple)):
        return all(is_plain(part) for part in node.elts)
    if isinstance(node, ast.Attribute):
        return isinstance(node.value, ast.Name)
    return isinstance(node, (ast.Name, ast.Constant))


def wrong_calls(node):
    if isinstance(node, ast.Call):
        if any(isinstance(part, ast.Starred) and not is_plain(part.value) for part in node.args):
            yield "L7 star"
    if isinstance(node, ast.BinOp) and isinstance(node.op, ast.Pow):
        if not (isinstance(node.right, ast.Constant) and node.right.value in range(65)):
            yield "L27 exponent"
    if isinstance(node, ast.Constant) and isinstance(node.value, str) and "%" in node.value:
        yield "L27 sign in a string"
    if isinstance(node, ast.Compare) and any(isinstance(word, (ast.Is, ast.IsNot)) for word in node.ops):
        if not all(isinstance(part, ast.Constant) for part in node.comparators):
            yield "L20 is"
    if isinstance(node, ast.GeneratorExp):
        yield "L7 generator expression beside operators"


def wrong_names(node):
    for name in names_bound(node):
        if name in dir(builtins) or name in NEVER:
            yield f"L15 or L17 name {name}"
    if isinstance(node, ast.Attribute) and node.attr in NEVER:
        yield f"L17 attribute {node.attr}"
    if isinstance(node, ast.Name) and node.id in dir(builtins) and node.id not in BUILTINS:
        yield f"L8 builtin {node.id}"
    if isinstance(node, ast.Constant) and isinstance(node.value, (float, complex)):
        yield "L7 float"
    if isinstance(node, UNUSED):
        yield f"L6 or L7 {node.__class__.__name__}"


def wrong_lines(text):
    lines = text.split("\n")
    if len(lines) - 1 > 399:
        yield 0, "L10 more than 399 lines"
    for at, line in enumerate(lines, start=1):
        if len(line) > 120 or "\t" in line:
            yield at, "L10 line"
        if WORDS.search(line):
            yield at, "L17 word"


def wrong_bindings(tree):
    """L15: a parameter or variable has the name of an import or a class of its file."""
    taken = [node.name for node in tree.body if isinstance(node, ast.ClassDef)]
    taken += [name for node in tree.body if isinstance(node, ast.ImportFrom) for name in names_bound(node)]
    for node in ast.walk(tree):
        if isinstance(node, (ast.arg, ast.Name)):
            for name in names_bound(node):
                if name in taken:
                    yield node.lineno, f"L15 name {name}"


def setters(paths):
    """The names of all properties that can be assigned."""
    names = set()
    for path in paths:
        for node in ast.walk(ast.parse(path.read_text(encoding="utf-8"))):
            if isinstance(node, ast.Attribute) and node.attr == "setter":
                names.add(node.value.id)
    return names


def wrong_cycles(paths):
    """L16: no two files import from each other, not through others either."""
    leads = {}
    for path in paths:
        tree = ast.parse(path.read_text(encoding="utf-8"))
        froms = [node.module for node in tree.body if isinstance(node, ast.ImportFrom)]
        leads[path.stem] = [name.split(".")[1] for name in froms if name.startswith(PACKAGE + ".")]
    for file in leads:
        behind, todo = set(), list(leads[file])
        while todo:
            other = todo.pop()
            if other not in behind:
                behind.add(other)
                todo.extend(leads[other])
        if file in behind:
            yield f"L16 {file} imports from itself through others"


def members(paths):
    """The names of all methods, properties and attributes of the package."""
    methods, properties, attributes = set(), set(), set()
    for path in paths:
        for node in ast.walk(ast.parse(path.read_text(encoding="utf-8"))):
            if isinstance(node, ast.ClassDef):
                functions = [part for part in node.body if isinstance(part, ast.FunctionDef)]
                methods |= {part.name for part in functions if not part.decorator_list}
                properties |= {part.name for part in functions if part.decorator_list}
            if isinstance(node, ast.Attribute) and isinstance(node.ctx, ast.Store):
                attributes.add(node.attr)
    return methods, properties, attributes


def wrong_members(paths):
    """L5 and L18: no name is two of a method, a property and an attribute."""
    methods, properties, attributes = members(paths)
    taken = properties & attributes - setters(paths)
    for name in sorted(methods & properties | methods & attributes | taken):
        yield f"L5 or L18 member {name}"


def wrong_in(path):
    text = path.read_text(encoding="utf-8")
    yield from wrong_lines(text)
    yield from wrong_bindings(ast.parse(text))
    for node in ast.walk(ast.parse(text)):
        for check in (wrong_imports, wrong_functions, wrong_calls, wrong_names):
            for what in check(node):
                yield getattr(node, "lineno", 0), what


def main():
    found = []
    for path in sorted(pathlib.Path(PACKAGE).rglob("*")):
        if "__pycache__" in path.parts or path.is_dir():
            continue
        if path.suffix != ".py":
            found.append(f"{path}: L1 no .py file")
        else:
            found.extend(f"{path}:{at}: {what}" for at, what in wrong_in(path))
    paths = sorted(pathlib.Path(PACKAGE).glob("*.py"))
    found.extend([*wrong_members(paths), *wrong_cycles(paths)])
    print("\n".join(found) or "language: nothing found")
    sys.exit(1 if found else 0)


main()
