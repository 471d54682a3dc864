"""Tests that the files of the package keep to the subset of Python in which they are written.

Only what a look at the syntax can tell is tested here; the numbers are those of the rules.
"""

import ast
import builtins
import pathlib
import re
import unittest

PACKAGE = pathlib.Path(__file__).resolve().parent.parent / "ruleengine"
BUILTINS = set("""
    len range enumerate zip min max sum abs sorted reversed int str bool bytes list tuple dict set frozenset isinstance
    ord repr any all divmod iter next map print super property staticmethod classmethod NotImplemented Exception
    ValueError TypeError KeyError IndexError LookupError ZeroDivisionError ArithmeticError OverflowError RuntimeError
    NotImplementedError AttributeError StopIteration
""".split())
METHODS = set("""
    init eq repr str len enter exit call iter lt le gt ge ne add sub mul floordiv mod pow and or xor lshift rshift radd
    rsub rmul rfloordiv rmod rand ror rxor rlshift rrshift iadd isub imul ifloordiv imod ipow iand ior ixor ilshift
    irshift neg pos invert abs bool contains getitem setitem
""".split())
LIBRARY = {
    "heapq": {"heappush", "heappop", "heapify", "heapreplace", "heappushpop"},
    "math": {"gcd", "lcm", "isqrt", "comb", "perm", "factorial"},
    "itertools": {"product", "combinations", "permutations"},
}
BARRED_NODES = (ast.Global, ast.AsyncFor, ast.AsyncFunctionDef, ast.AsyncWith, ast.Await, ast.Import, ast.Div,
                ast.MatMult)
BARRED_WORDS = re.compile(r"\b(type|typing|typing_extensions|enum|Enum|IntEnum|StrEnum|Flag|IntFlag|Generic|Protocol"
                          r"|ABC|ABCMeta|namedtuple|NamedTuple|TypedDict|TYPE_CHECKING|abstractmethod)\b")
BARRED_TEXTS = ("dataclass", "overload", "contextmanager", "(type)", "Meta", "metaclass=", "_wall", "_WallAttr")
BARRED_NAMES = set("""
    register mro elements open input law version_info with_traceback add_note attrgetter breakpoint builtins compile
    copyright credits delattr dir eval exec exit gc getattr globals hasattr help id importlib license locals
    methodcaller os quit setattr type vars sys
""".split())
BARRED_ATTRIBUTES = set("""
    items keys values pop update append clear extend insert remove reverse setdefault sort args encode decode hex
    fromhex format format_map mro register elements open input law
""".split())


def files():
    """Pairs of the name and the text of each file of the package."""
    paths = sorted(PACKAGE.rglob("*.py"))
    return [(str(path.relative_to(PACKAGE)), path.read_bytes().decode("utf-8")) for path in paths]


def nodes():
    """Pairs of the name of a file and a node of its syntax tree."""
    return [(name, node) for name, text in files() for node in ast.walk(ast.parse(text))]


def is_dunder(name):
    return name.startswith("__")


class LanguageTest(unittest.TestCase):

    def test_files(self):
        for path in PACKAGE.rglob("*"):
            if "__pycache__" not in path.parts:
                self.assertTrue(path.is_dir() or path.suffix == ".py", path)
        self.assertLessEqual(len(files()), 100)
        self.assertIn("__init__.py", [name for name, _ in files()])

    def test_lines_and_characters(self):
        for name, text in files():
            self.assertLessEqual(len(text.splitlines()), 399, name)
            self.assertTrue(all(sign == "\n" or " " <= sign <= "~" for sign in text), name)
            for line in text.splitlines():
                self.assertLessEqual(len(line), 120, name)

    def test_functions_are_small(self):
        for name, node in nodes():
            if isinstance(node, ast.FunctionDef):
                self.assertLessEqual(node.end_lineno - node.lineno + 1, 40, name + " " + node.name)

    def test_imports(self):
        for name, node in nodes():
            if isinstance(node, ast.ImportFrom):
                self.assertEqual(node.level, 0, name)
                self.assertTrue(node.module.startswith("ruleengine.") or node.module in LIBRARY, name)
                for alias in node.names:
                    self.assertTrue(alias.name in LIBRARY.get(node.module, {alias.name}) and alias.name != "*", name)

    def test_statements(self):
        for name, node in nodes():
            self.assertNotIsInstance(node, BARRED_NODES, name)
            if isinstance(node, ast.Constant):
                self.assertNotIsInstance(node.value, (float, complex), name)
            if isinstance(node, ast.ExceptHandler):
                self.assertIsNotNone(node.type, name)

    def test_module_level(self):
        for name, text in files():
            for node in ast.parse(text).body:
                is_docstring = isinstance(node, ast.Expr) and isinstance(node.value, ast.Constant)
                is_statement = isinstance(node, (ast.ImportFrom, ast.FunctionDef, ast.ClassDef, ast.Assign))
                self.assertTrue(is_docstring or is_statement, name)

    def test_decorators(self):
        for name, node in nodes():
            if isinstance(node, ast.ClassDef):
                self.assertEqual(node.decorator_list, [], name)
            if isinstance(node, ast.FunctionDef):
                for decorator in node.decorator_list:
                    self.assertRegex(ast.unparse(decorator), r"^(property|staticmethod|classmethod|\w+\.setter)$")

    def test_double_underscore_methods(self):
        for name, node in nodes():
            if isinstance(node, ast.FunctionDef) and is_dunder(node.name):
                self.assertIn(node.name[2:-2], METHODS, name)
            if isinstance(node, ast.ClassDef):
                methods = [item.name for item in node.body if isinstance(item, ast.FunctionDef)]
                self.assertTrue("__getitem__" not in methods or "__iter__" in methods, name + " " + node.name)

    def test_builtins(self):
        for name, node in nodes():
            # A doctest that ran before leaves `_` among the builtins.
            if isinstance(node, ast.Name) and node.id != "_" and hasattr(builtins, node.id):
                self.assertIsInstance(node.ctx, ast.Load, name)
                self.assertIn(node.id, BUILTINS, name)
            if isinstance(node, ast.arg) and node.arg != "_":
                self.assertFalse(hasattr(builtins, node.arg), name + " " + node.arg)

    def test_names(self):
        for name, node in nodes():
            if isinstance(node, ast.Name):
                self.assertNotIn(node.id, BARRED_NAMES, name)
                self.assertFalse(is_dunder(node.id), name)
            if isinstance(node, (ast.FunctionDef, ast.ClassDef)):
                self.assertNotIn(node.name, BARRED_NAMES, name)
            if isinstance(node, ast.arg):
                self.assertNotIn(node.arg, BARRED_NAMES, name)
            if isinstance(node, ast.Attribute) and isinstance(node.ctx, ast.Store):
                self.assertNotIn(node.attr, BARRED_ATTRIBUTES, name)

    def test_words(self):
        for name, text in files():
            for node in ast.walk(ast.parse(text)):
                if isinstance(node, ast.Constant) and isinstance(node.value, str):
                    self.assertNotIn("%", node.value, name)
            code = "\n".join(line.split("  #")[0] for line in text.splitlines() if not line.lstrip().startswith("#"))
            self.assertIsNone(BARRED_WORDS.search(re.sub(r'"""[^"]*"""', "", code)), name)
            for word in BARRED_TEXTS:
                self.assertNotIn(word, text, name)

    def test_comparisons_with_is(self):
        for name, node in nodes():
            if isinstance(node, ast.Compare):
                for operator, other in zip(node.ops, node.comparators):
                    if isinstance(operator, (ast.Is, ast.IsNot)):
                        sides = [ast.unparse(node.left), ast.unparse(other)]
                        self.assertTrue("self" in sides or isinstance(other, ast.Constant), name)

    def test_no_call_of_dunder_attributes(self):
        for name, node in nodes():
            if isinstance(node, ast.Attribute) and is_dunder(node.attr):
                self.assertIn(node.attr, ("__init__", "__class__", "__name__"), name)


if __name__ == "__main__":
    unittest.main()
