"""The part of Python that the package keeps to: some rules of LANGUAGE.md, those easily seen, not all."""

import ast
import builtins
import re
import unittest
from pathlib import Path

ROOT = Path(__file__).resolve().parent.parent
PACKAGE = ROOT / "branchdepth"

PYTHONS_OWN = set(
    "len range enumerate zip min max sum abs sorted reversed int str bool bytes list tuple dict set frozenset "
    "isinstance ord repr any all divmod Exception ValueError TypeError KeyError IndexError LookupError "
    "ZeroDivisionError ArithmeticError OverflowError RuntimeError NotImplementedError AttributeError "
    "StopIteration".split())
PYTHONS_METHODS = set(
    "append clear copy count endswith extend find get index insert isalnum isalpha isdigit islower isspace isupper "
    "items join keys ljust lower lstrip partition pop remove replace reverse rfind rjust rpartition rsplit rstrip "
    "setdefault split splitlines startswith strip update upper values zfill bit_length title capitalize swapcase "
    "casefold center expandtabs removeprefix removesuffix rindex isascii isdecimal isnumeric istitle isidentifier "
    "isprintable sort add discard".split())
OWN_METHODS_WITH_UNDERSCORES = {"__init__", "__eq__", "__repr__", "__str__", "__len__"}
UNUSED_NAMES = set(
    "register mro elements open input version_info with_traceback add_note attrgetter breakpoint builtins compile "
    "copyright credits delattr dir eval exec exit gc getattr globals hasattr help id importlib license locals "
    "methodcaller os quit setattr super type vars sys format format_map".split())
UNUSED_WORDS = re.compile(
    r"\b(type|typing|typing_extensions|enum|Enum|IntEnum|StrEnum|Flag|IntFlag|Generic|Protocol|ABC|ABCMeta|namedtuple"
    r"|NamedTuple|TypedDict|TYPE_CHECKING|abstractmethod)\b|dataclass|overload|contextmanager")
UNUSED_FORMS = (
    ast.With, ast.Match, ast.Global, ast.Nonlocal, ast.Yield, ast.YieldFrom, ast.AsyncFunctionDef, ast.AsyncFor,
    ast.AsyncWith, ast.Await, ast.GeneratorExp, ast.NamedExpr, ast.Div, ast.MatMult, ast.TryStar, ast.Import)


def wrong_in_text(source):
    """L10, L14, L17: what the rows themselves show."""
    rows = source.split("\n")
    if len(rows) > 401:
        yield "L10 a file of more than 400 lines"
    for at, row in enumerate(rows, 1):
        if len(row) > 120:
            yield f"L10 {at}: a long line"
        if re.search(r"[^ -~]", row):
            yield f"L14 {at}: a sign that is not from the blank to ~"
        if UNUSED_WORDS.search(row):
            yield f"L17 {at}: a word that is not used"


def wrong_at_top(tree, is_own):
    """L2, L3, L15, L16: what stands at a file's top."""
    bound = []
    for place, row in enumerate(tree.body):
        if isinstance(row, ast.ImportFrom):
            if not is_own(row.module or "", [name.name for name in row.names]) or row.level:
                yield f"L2, L16 {row.lineno}: an import of something else than a name of the package's files"
            bound += [name.asname or name.name for name in row.names]
        elif isinstance(row, (ast.FunctionDef, ast.ClassDef)):
            bound.append(row.name)
        elif isinstance(row, ast.Assign) and all(isinstance(name, ast.Name) for name in row.targets):
            bound += [name.id for name in row.targets]
        elif not (place == 0 and ast.get_docstring(tree) is not None):
            yield f"L3 {row.lineno}: a row that does not stand at a file's top"
    if len(bound) != len(set(bound)):
        yield "L15 a name bound twice at a file's top"


def wrong_in_def(node):
    """L4, L10, L15: the form of a def."""
    taken = node.args
    if node.decorator_list or taken.vararg or taken.kwarg or taken.posonlyargs:
        yield f"L4 {node.lineno}: a decorator, or parameters that are not plain"
    if node.end_lineno - node.lineno >= 40:
        yield f"L10 {node.lineno}: a def of more than 40 lines"
    for parameter in taken.args + taken.kwonlyargs:
        if hasattr(builtins, parameter.arg):
            yield f"L15 {node.lineno}: a parameter called like a name of Python's own"


def names_in(node):
    if isinstance(node, ast.Name):
        return [node.id]
    if isinstance(node, ast.arg):
        return [node.arg]
    if isinstance(node, ast.Attribute):
        return [node.attr]
    if isinstance(node, (ast.FunctionDef, ast.ClassDef)):
        return [node.name]
    return []


def wrong_names(node, own):
    """L8, L12, L15, L17, L25: how things are called."""
    for name in names_in(node):
        plain = re.fullmatch(r"[A-Za-z][A-Za-z0-9_]*", name) or name in OWN_METHODS_WITH_UNDERSCORES
        if not plain or name in UNUSED_NAMES:
            yield f"L12, L17 {node.lineno}: the name {name}"
    if isinstance(node, ast.Name) and hasattr(builtins, node.id):
        if node.id not in PYTHONS_OWN or not isinstance(node.ctx, ast.Load):
            yield f"L8, L15 {node.lineno}: {node.id} of Python's own"
    if isinstance(node, ast.Attribute) and node.attr not in PYTHONS_METHODS and node.attr not in own:
        yield f"L18, L25 {node.lineno}: the method or value {node.attr}"


def is_written_exponent(node):
    return isinstance(node, ast.Constant) and isinstance(node.value, int) and 0 <= node.value <= 64


def wrong_form(node):
    """L6, L7, L19, L20, L27: statements and expressions."""
    at = getattr(node, "lineno", 0)
    if isinstance(node, UNUSED_FORMS):
        yield f"L2, L6, L7 {at}: {node.__class__.__name__}"
    if isinstance(node, (ast.For, ast.While)) and node.orelse:
        yield f"L6 {at}: an else behind a loop"
    if isinstance(node, ast.Starred) and isinstance(node.ctx, ast.Load):
        yield f"L7 {at}: a star"
    if isinstance(node, ast.Constant) and isinstance(node.value, (float, complex)):
        yield f"L7 {at}: a number that is not whole"
    if isinstance(node, ast.Constant) and isinstance(node.value, str) and "%" in node.value:
        yield f"L27 {at}: the sign for rests in a text"
    if isinstance(node, ast.FormattedValue) and node.format_spec is not None:
        yield f"L7 {at}: a format"
    if isinstance(node, (ast.BinOp, ast.AugAssign)) and isinstance(node.op, ast.Pow):
        if not is_written_exponent(node.right if isinstance(node, ast.BinOp) else node.value):
            yield f"L27 {at}: a power that is not written"
    if isinstance(node, ast.ExceptHandler):
        if node.type is None or {"Exception", "TypeError"} & {part for part in ast.unparse(node.type).split(", ")}:
            yield f"L19 {at}: a handler that takes too much"
    if isinstance(node, ast.Compare):
        for sign, right in zip(node.ops, node.comparators):
            if isinstance(sign, (ast.Is, ast.IsNot)) and getattr(right, "value", 0) not in (None, True, False):
                yield f"L20 {at}: is"


def wrong_locals(tree):
    """L15: no parameter, local or inner def is called like an import or a class of its file."""
    taken = {row.name for row in tree.body if isinstance(row, ast.ClassDef)}
    for row in tree.body:
        if isinstance(row, ast.ImportFrom):
            taken |= {name.asname or name.name for name in row.names}
    for node in ast.walk(tree):
        given = set()
        if isinstance(node, ast.arg):
            given = {node.arg}
        elif isinstance(node, ast.Name) and not isinstance(node.ctx, ast.Load):
            given = {node.id}
        elif isinstance(node, ast.FunctionDef) and node not in tree.body:
            given = {node.name}
        if given & taken and not is_method(tree, node):
            yield f"L15 {node.lineno}: {sorted(given & taken)} is an import or a class of the file"


def is_method(tree, node):
    return any(node in row.body for row in tree.body if isinstance(row, ast.ClassDef))


def draws_in_rings(draws):
    """L16: the files that draw from themselves, in whatever many steps."""
    reached = {name: set(others) for name, others in draws.items()}
    for turn in draws:
        for name, others in reached.items():
            reached[name] = others.union(*(reached.get(other, set()) for other in others))
    return sorted(name for name, others in reached.items() if name in others)


WALKED = {"range", "zip", "enumerate", "reversed", "items", "keys", "values"}
WALKERS = {"list", "tuple", "dict", "sorted", "sum", "any", "all", "enumerate", "zip", "bytes", "min", "max", "join"}


def called(node):
    """How what is called is named, None where it has no name or nothing is called."""
    if not isinstance(node, ast.Call):
        return None
    return getattr(node.func, "id", getattr(node.func, "attr", None))


def is_walked_at_once(node, parent):
    if isinstance(parent, (ast.For, ast.comprehension)):
        return parent.iter is node
    if isinstance(parent, ast.Compare):
        return called(node) in {"range", "keys"} and isinstance(parent.ops[0], (ast.In, ast.NotIn))
    if called(parent) in {"reversed", "len"}:
        return called(node) == "range"
    return called(parent) in WALKERS and parent.args[:1] == [node]


def wrong_walks(tree):
    """L23: what is walked on the spot is not kept."""
    for parent in ast.walk(tree):
        for node in ast.iter_child_nodes(parent):
            if called(node) in WALKED and not is_walked_at_once(node, parent):
                yield f"L23 {node.lineno}: {called(node)} that is not walked on the spot"


def wrong_in(source, is_own, own=()):
    """All that is seen to be outside the rules in one file's text."""
    tree = ast.parse(source)
    found = list(wrong_in_text(source)) + list(wrong_at_top(tree, is_own)) + list(wrong_locals(tree))
    found += list(wrong_walks(tree))
    for node in ast.walk(tree):
        found += list(wrong_form(node)) + list(wrong_names(node, own))
        if isinstance(node, ast.FunctionDef):
            found += list(wrong_in_def(node))
        if isinstance(node, ast.ImportFrom) and node not in tree.body:
            found.append(f"L2 {node.lineno}: an import that does not stand at the top")
    return found


def package_files():
    return sorted(PACKAGE.glob("*.py"))


def own_names():
    """Methods and values that the package's classes have, and what each file binds at its top."""
    methods = set()
    tops = {}
    for path in package_files():
        tree = ast.parse(path.read_text(encoding="utf-8"))
        tops[f"branchdepth.{path.stem}"] = {
            name for row in tree.body if not isinstance(row, ast.ImportFrom)
            for part in (row.targets if isinstance(row, ast.Assign) else [row]) for name in names_in(part)}
        for node in ast.walk(tree):
            if isinstance(node, ast.ClassDef):
                methods |= {row.name for row in node.body if isinstance(row, ast.FunctionDef)}
            if isinstance(node, ast.Attribute) and isinstance(node.ctx, ast.Store):
                methods.add(node.attr)
    return methods, tops


class LanguageTest(unittest.TestCase):
    def test_the_folder_holds_plain_files_alone(self):
        for path in PACKAGE.iterdir():
            if path.name != "__pycache__":
                self.assertRegex(path.name, r"\A([a-z][a-z0-9_]*|__init__|__main__)\.py\Z")
        self.assertTrue((PACKAGE / "__init__.py").is_file())

    def test_each_file_keeps_to_the_rules(self):
        methods, tops = own_names()

        def is_own(module, names):
            return set(names) <= tops.get(module, set())

        for path in package_files():
            with self.subTest(path.name):
                self.assertEqual(wrong_in(path.read_text(encoding="utf-8"), is_own, methods), [])

    def test_no_files_draw_from_one_another(self):
        draws = {}
        for path in package_files():
            tree = ast.parse(path.read_text(encoding="utf-8"))
            draws[f"branchdepth.{path.stem}"] = {row.module for row in tree.body if isinstance(row, ast.ImportFrom)}
        self.assertEqual(draws_in_rings(draws), [])


OUTSIDE = (
    "import math", "from math import gcd", "from .errors import NoRow", "def a():\n    from b import c", "a = 1\na = 2",
    "print(1)", "def a(*b):\n    pass", "def a(**b):\n    pass", "@a\ndef b():\n    pass", "def a(min):\n    pass",
    "def a(b):\n    min = b", "def a(b):\n    return b / 2", "def a():\n    return 0.5", "def a(b):\n    return 2 ** b",
    "def a(b):\n    b **= b", "def a(b):\n    yield b", "def a(b):\n    return sum(c for c in b)",
    "def _a():\n    pass",
    "def a(b):\n    return b is 3", "def a(b):\n    return (b := 3)", "def a(b):\n    with b:\n        pass",
    "def a(b):\n    for c in b:\n        pass\n    else:\n        pass", "def a(b):\n    return pow(b, 2)",
    "def a(b):\n    return f'{b:3}'", "def a():\n    return '%'", "def a(b):\n    return [*b]", "A = 'type'",
    "def a(b):\n    return chr(b)", "def a(b):\n    return b.isalphabet()", "A = '\u00e4'", "A = '\t'",
    "A = '" + "x" * 120 + "'", "\n" * 401, "def a():\n" + "    pass\n" * 40,
    "def a():\n    try:\n        pass\n    except Exception:\n        pass",
    "def a():\n    try:\n        pass\n    except:\n        pass",
    "def a(b):\n    c = range(b)\n    return list(c)", "def a(b):\n    return zip(b, b)",
    "def a(b):\n    return len(zip(b, b))",
    "def a(b):\n    return b.items()", "def a(b):\n    return sum([], range(b))",
    "class A:\n    pass\n\n\ndef b(A):\n    return A", "class A:\n    pass\n\n\ndef b(c):\n    A = c\n    return A",
)


class OutsideTest(unittest.TestCase):
    def test_what_is_outside_is_seen(self):
        for source in OUTSIDE:
            with self.subTest(source[:60]):
                self.assertNotEqual(wrong_in(source, lambda module, names: False), [])

    def test_rings_are_seen(self):
        self.assertEqual(draws_in_rings({"a": {"b"}, "b": {"c"}, "c": {"a"}, "d": {"a"}}), ["a", "b", "c"])
        self.assertEqual(draws_in_rings({"a": {"b", "c"}, "b": {"c"}, "c": set()}), [])

    def test_locals_called_like_imports_are_seen(self):
        source = "from branchdepth.a import b\n\n\ndef c(b):\n    return b\n"
        self.assertNotEqual(wrong_in(source, lambda module, names: True), [])

    def test_what_is_inside_is_let_by(self):
        source = '"""A file."""\n\nA = (1, 2)\n\n\ndef b(c):\n    return [d ** 2 for d in c if d is not None]\n'
        self.assertEqual(wrong_in(source, lambda module, names: False), [])
        source = "def a(b):\n    for c in reversed(range(b)):\n        return sorted(zip([c], [d for d in range(b)]))\n"
        self.assertEqual(wrong_in(source, lambda module, names: False), [])


if __name__ == "__main__":
    unittest.main()
