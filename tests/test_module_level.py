"""Tests that what stands at the top of a module, in a class or as a default value is plain, and never a call (L3)."""

import ast
import unittest

from tests.test_language import files

PLAIN_KINDS = (int, str, bytes, bool, type(None))
SIGNS = (ast.Add, ast.Sub, ast.Mult, ast.FloorDiv, ast.Mod, ast.Pow, ast.LShift, ast.RShift, ast.BitAnd, ast.BitOr,
         ast.BitXor)


def is_plain(value, known):
    """Tell if an expression is a plain value, where some names are known to mean plain values and functions."""
    if isinstance(value, ast.Constant):
        return isinstance(value.value, PLAIN_KINDS)
    if isinstance(value, ast.Name):
        return value.id in known
    if isinstance(value, ast.UnaryOp):
        return isinstance(value.op, ast.USub) and is_plain(value.operand, known)
    if isinstance(value, ast.BinOp):
        return isinstance(value.op, SIGNS) and is_plain(value.left, known) and is_plain(value.right, known)
    if isinstance(value, (ast.List, ast.Tuple)):
        return all(is_plain(item, known) for item in value.elts)
    if isinstance(value, ast.Dict):
        # A key None stands for two stars.
        return None not in value.keys and all(is_plain(item, known) for item in value.keys + value.values)
    return False


def faults_at_top(text):
    """The lines of the statements at the top of a module that L3 does not allow there."""
    found = []
    known = set()
    for spot, node in enumerate(ast.parse(text).body):
        if isinstance(node, ast.Assign):
            names = [target.id for target in node.targets if isinstance(target, ast.Name)]
            if len(node.targets) != 1 or len(names) != 1 or names[0] in known or not is_plain(node.value, known):
                found.append(node.lineno)
            known.update(names)
        elif isinstance(node, ast.FunctionDef):
            known.add(node.name)
        elif isinstance(node, ast.Expr):
            if spot > 0 or not isinstance(node.value, ast.Constant) or not isinstance(node.value.value, str):
                found.append(node.lineno)
        elif not isinstance(node, (ast.ImportFrom, ast.ClassDef)):
            found.append(node.lineno)
    return found


def faults_in_classes(text):
    """The lines of the statements in the bodies of classes that are no docstrings, methods and plain class values."""
    found = []
    for above in ast.walk(ast.parse(text)):
        if isinstance(above, ast.ClassDef):
            for spot, node in enumerate(above.body):
                is_docstring = spot == 0 and isinstance(node, ast.Expr) and isinstance(node.value, ast.Constant)
                is_value = (isinstance(node, ast.Assign) and len(node.targets) == 1
                            and isinstance(node.targets[0], ast.Name) and is_plain(node.value, set()))
                if not is_docstring and not is_value and not isinstance(node, (ast.FunctionDef, ast.Pass)):
                    found.append(node.lineno)
    return found


def faults_in_defaults(text):
    """The lines of default values that contain a call."""
    found = []
    for node in ast.walk(ast.parse(text)):
        if isinstance(node, ast.arguments):
            for value in node.defaults + [value for value in node.kw_defaults if value is not None]:
                if any(isinstance(part, ast.Call) for part in ast.walk(value)):
                    found.append(value.lineno)
    return found


class PackageTest(unittest.TestCase):

    def test_top_of_each_module(self):
        for name, text in files():
            self.assertEqual(faults_at_top(text), [], name)

    def test_bodies_of_classes(self):
        for name, text in files():
            self.assertEqual(faults_in_classes(text), [], name)

    def test_default_values(self):
        for name, text in files():
            self.assertEqual(faults_in_defaults(text), [], name)


class CheckTest(unittest.TestCase):
    """Tests of the checks above by texts that they have to allow and to reject."""

    def test_plain_values_are_allowed(self):
        for value in ("0", "-1", "True", "None", "'x'", "b'x'", "()", "[]", "{}", "(1, 'x', None)", "[(1,), [2]]",
                      "{'x': (1, 2), 3: [4]}", "2 ** 31 - 1", "'ab' * 3", "ABOVE", "(ABOVE, -ABOVE)", "[told]",
                      "{'told': told}"):
            text = "ABOVE = 1\n\n\ndef told():\n    return 1\n\n\nHERE = " + value + "\n"
            self.assertEqual(faults_at_top(text), [], value)

    def test_calls_are_rejected(self):
        for value in ("place_of(0, IN)", "told()", "told(ABOVE)", "tuple([1])", "len('x')", "'a b'.split()", "-told()",
                      "told() + 1", "1 + told()", "(1, told())", "[told()]", "[[1, (told(),)]]", "{told(): 1}",
                      "{1: told()}", "told() if ABOVE else 1", "1 if told() else 2", "ABOVE or told()", "told() == 1",
                      "[told() for x in (1, 2)]", "[x for x in told()]", "{x: told() for x in (1, 2)}", "(told())[0]",
                      "(told()).x", "(ABOVE, 1)[told()]", "f'{told()}'", "(lambda: 1)()", "lambda: told()",
                      "(*told(), 1)", "{**told()}", "(LOW := told())", "not told()", "Told(1).x"):
            text = "ABOVE = 1\n\n\ndef told(x=1):\n    return 1\n\n\nHERE = " + value + "\n"
            self.assertEqual(faults_at_top(text), [8], value)

    def test_other_values_are_rejected(self):
        for value in ("1.5", "2j", "...", "{1, 2}", "BELOW", "Told", "(1, Told)", "ABOVE.x", "ABOVE[0]", "not ABOVE",
                      "~ABOVE", "1 / 2", "1 < 2", "1 if ABOVE else 2", "[x for x in ABOVE]", "lambda: 1", "f'{ABOVE}'"):
            text = "ABOVE = 1\n\n\nclass Told:\n    pass\n\n\nHERE = " + value + "\nBELOW = 2\n"
            self.assertEqual(faults_at_top(text), [8], value)

    def test_targets_and_statements(self):
        self.assertEqual(faults_at_top("'''Told.'''\n\nfrom a.b import c\n\n\nclass D:\n    pass\n"), [])
        for text in ("A, B = 0, 1", "A = B = 0", "A: int = told()", "A += told()", "A.x = 1", "A[0] = 1", "told()",
                     "if told():\n    A = 1", "for A in told():\n    pass", "del A", "1", "import a", "pass"):
            self.assertEqual(faults_at_top("'''Told.'''\n" + text + "\n"), [2], text)
        self.assertEqual(faults_at_top("A = 0\nA = 1\n"), [2])

    def test_class_values(self):
        start = "class Told:\n    '''Told.'''\n\n    A = "
        for value in ("0", "-1", "'x'", "None", "(1, 'x')"):
            self.assertEqual(faults_in_classes(start + value + "\n"), [], value)
        for value in ("told()", "(1, told())", "B", "lambda: 1"):
            self.assertEqual(faults_in_classes(start + value + "\n"), [4], value)
        self.assertEqual(faults_in_classes(start + "0\n    told()\n"), [5])

    def test_defaults(self):
        self.assertEqual(faults_in_defaults("def told(x=1, *, y=(2, A)):\n    return lambda z=-1: z\n"), [])
        for text in ("def told(x=made()):\n    pass", "def told(*, x=(1, made())):\n    pass",
                     "told = lambda x=made(): x", "def told(x, /, y=1 + made()):\n    pass"):
            self.assertEqual(faults_in_defaults(text + "\n"), [1], text)


if __name__ == "__main__":
    unittest.main()
