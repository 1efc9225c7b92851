"""The rules of the language that a program can check: sizes, characters, names, imports, calls."""

import ast
import builtins
import pathlib
import re
import unittest
import warnings

PACKAGE = pathlib.Path(__file__).resolve().parent.parent / "everydoor"
FILES = sorted(PACKAGE.rglob("*.py"))
BUILTINS = (
    "len range enumerate zip min max sum abs sorted reversed int str bool bytes list tuple dict set"
    " isinstance ord repr any all divmod iter next super property staticmethod classmethod"
    " Exception ValueError TypeError KeyError IndexError LookupError ZeroDivisionError"
    " ArithmeticError OverflowError RuntimeError NotImplementedError AttributeError StopIteration"
    " NotImplemented"
).split()
SPECIAL = (
    "init eq repr str len enter exit call iter lt le gt ge ne add sub mul floordiv mod pow and or"
    " xor lshift rshift radd rsub rmul rfloordiv rmod rand ror rxor rlshift rrshift iadd isub imul"
    " ifloordiv imod ipow iand ior ixor ilshift irshift neg pos invert abs bool contains getitem"
    " setitem"
).split()
BARRED_WORDS = (
    "type typing typing_extensions enum Enum IntEnum StrEnum Flag IntFlag Generic Protocol ABC"
    " ABCMeta namedtuple NamedTuple TypedDict TYPE_CHECKING abstractmethod"
).split()
BARRED_NAMES = (
    "register mro elements open input law version_info with_traceback add_note attrgetter breakpoint"
    " builtins compile copyright credits delattr dir eval exec exit gc getattr globals hasattr help"
    " id importlib license locals methodcaller os quit setattr type vars format format_map"
).split()
ALLOWED = (
    ast.expr, ast.expr_context, ast.operator, ast.unaryop, ast.cmpop, ast.boolop, ast.arguments,
    ast.arg, ast.keyword, ast.comprehension, ast.ExceptHandler, ast.alias, ast.withitem,
    ast.match_case, ast.pattern, ast.Module, ast.FunctionDef, ast.ClassDef, ast.Return, ast.Delete,
    ast.Assign, ast.AugAssign, ast.AnnAssign, ast.For, ast.While, ast.If, ast.With, ast.Match,
    ast.Raise, ast.Try, ast.Assert, ast.ImportFrom, ast.Nonlocal, ast.Expr, ast.Pass, ast.Break,
    ast.Continue,
)
READING = [f"__{word}__" for word in "eq repr str len contains getitem iter".split()]
FOLDING = ("any", "all", "min", "max", "sum", "sorted")


def walk_all():
    """Yield (file name, node) for each node of each file."""
    for path in FILES:
        for node in ast.walk(ast.parse(path.read_text())):
            yield path.name, node


def names_of(node):
    """Return the names that this node itself binds or reads."""
    found = [getattr(node, field, None) for field in ("id", "arg", "attr", "name", "asname")]
    return [name for name in found if isinstance(name, str)]


def methods_of(node):
    """Return the methods in the body of a class."""
    if not isinstance(node, ast.ClassDef):
        return []
    return [row for row in node.body if isinstance(row, ast.FunctionDef)]


class LanguageTest(unittest.TestCase):
    def test_folder(self):
        for path in PACKAGE.rglob("*"):
            if "__pycache__" not in path.parts:
                self.assertTrue(path.is_dir() or path.suffix == ".py", path)

    def test_sizes_and_characters(self):
        for path in FILES:
            text = path.read_text()
            lines = text.splitlines()
            with self.subTest(file=path.name):
                self.assertLessEqual(len(lines), 399)
                self.assertLessEqual(max([len(line) for line in lines]), 120)
                self.assertIsNone(re.search("[^\n -~]", text))
                self.assertNotIn("%", text)

    def test_size_of_functions(self):
        for name, node in walk_all():
            if isinstance(node, ast.FunctionDef):
                with self.subTest(file=name, function=node.name):
                    self.assertLessEqual(node.end_lineno - node.lineno + 1, 40)

    def test_words(self):
        for path in FILES:
            words = set(re.findall(r"\w+", path.read_text()))
            self.assertEqual(words & set(BARRED_WORDS), set(), path.name)

    def test_no_warnings(self):
        with warnings.catch_warnings():
            warnings.simplefilter("error")
            for path in FILES:
                compile(path.read_text(), path.name, "exec")

    def test_statements(self):
        for name, node in walk_all():
            self.assertIsInstance(node, ALLOWED, name)
            self.assertNotIsInstance(node, (ast.Await, ast.Div), name)

    def test_names(self):
        for file, node in walk_all():
            for name in names_of(node):
                with self.subTest(file=file, name=name):
                    self.assertNotIn(name, BARRED_NAMES)
                    if name.startswith("_"):
                        self.assertIn(name, [f"__{word}__" for word in SPECIAL])

    def test_builtins(self):
        for file, node in walk_all():
            if isinstance(node, ast.Name) and hasattr(builtins, node.id):
                self.assertIn(node.id, BUILTINS, file)
                self.assertIsInstance(node.ctx, ast.Load, file)

    def test_imports(self):
        for file, node in walk_all():
            if isinstance(node, ast.ImportFrom):
                self.assertEqual((node.level, node.module.split(".")[0]), (0, "everydoor"), file)
                path = PACKAGE / (node.module.split(".")[1] + ".py")
                defined = [getattr(row, "name", "") for row in ast.parse(path.read_text()).body]
                for alias in node.names:
                    self.assertIn(alias.name, defined, file)

    def test_generators_in_calls(self):
        for file, node in walk_all():
            if isinstance(node, ast.Call) and getattr(node.func, "id", "") in FOLDING:
                for value in node.args:
                    self.assertNotIsInstance(value, ast.GeneratorExp, file)

    def test_methods_and_attributes_have_different_names(self):
        methods, properties, setters, attributes = set(), set(), set(), set()
        for _, node in walk_all():
            for row in methods_of(node):
                signs = [ast.unparse(sign) for sign in row.decorator_list]
                if signs == ["property"]:
                    properties.add(row.name)
                elif signs == [f"{row.name}.setter"]:
                    setters.add(row.name)
                else:
                    methods.add(row.name)
            if isinstance(node, ast.Attribute) and isinstance(node.ctx, ast.Store):
                attributes.add(node.attr)
        self.assertEqual(methods & (attributes | properties), set())
        self.assertEqual(properties & attributes, setters)

    def test_generators(self):
        generators, others = [], []
        for file, node in walk_all():
            if isinstance(node, ast.FunctionDef):
                yields = [row for row in ast.walk(node) if isinstance(row, (ast.Yield, ast.YieldFrom))]
                (generators if yields else others).append(node.name)
                self.assertFalse(yields and node.decorator_list, file)
        self.assertEqual(set(generators) & set(others), set())

    def test_operators_and_properties_add_nothing_up(self):
        for file, node in walk_all():
            for row in methods_of(node):
                signs = [ast.unparse(sign) for sign in row.decorator_list]
                if signs == ["property"] or row.name in READING:
                    for part in ast.walk(row):
                        with self.subTest(file=file, method=row.name):
                            self.assertNotIsInstance(part, ast.AugAssign)

    def test_iteration(self):
        for file, node in walk_all():
            names = [row.name for row in methods_of(node)]
            self.assertTrue("__iter__" in names or "__getitem__" not in names, file)
            for row in methods_of(node):
                if row.name == "__iter__":
                    self.assertRegex(ast.unparse(row.body[-1]), r"^return iter\(self\.\w+\)$")
                    self.assertEqual(len(row.body), 1, file)


if __name__ == "__main__":
    unittest.main()
