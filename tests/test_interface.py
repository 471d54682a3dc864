"""Tests of the names, parameters and places of definition that the interface lists."""

import importlib
import inspect
import unittest

CLASSES = {
    "ruleengine.forms": {"Form": ("of",), "Schema": ("of", "__contains__", "__getitem__", "__eq__")},
    "ruleengine.trees": {
        "Tree": ("each_path", "put", "__len__", "__eq__", "__contains__", "__getitem__"),
        "Var": ("__eq__",), "Word": ("__eq__",), "Rest": ("__eq__",), "Like": ("__eq__",),
    },
}


def parameters(call):
    """The names of the parameters of a function or a class, with the stars in front of them."""
    return [str(parameter) for parameter in inspect.signature(call).parameters.values()]


class InterfaceTest(unittest.TestCase):

    def test_classes_stand_in_their_modules(self):
        for module, classes in CLASSES.items():
            for name, methods in classes.items():
                kind = getattr(importlib.import_module(module), name)
                self.assertEqual(kind.__module__, module)
                for method in (*methods, "__init__"):
                    self.assertIn(method, vars(kind), name)

    def test_parameters(self):
        forms, trees = importlib.import_module("ruleengine.forms"), importlib.import_module("ruleengine.trees")
        self.assertEqual(parameters(forms.Form), ["name", "sort", "**slots"])
        self.assertEqual(parameters(forms.Form.of), ["name", "sort", "slots"])
        self.assertEqual(parameters(forms.Schema), ["*forms"])
        self.assertEqual(parameters(forms.Schema.of), ["forms"])
        self.assertEqual(parameters(trees.Tree), ["form", "*parts"])
        self.assertEqual(parameters(trees.Tree.put), ["self", "path", "other"])
        self.assertEqual(parameters(trees.Like), ["form", "*parts"])
        for kind in (trees.Var, trees.Word, trees.Rest):
            self.assertEqual(parameters(kind), ["name"])

    def test_errors_stand_in_their_module(self):
        errors = importlib.import_module("ruleengine.errors")
        self.assertEqual(parameters(errors.InvalidSchema), ["fault", "item=None"])
        self.assertEqual(parameters(errors.InvalidRule), ["spot", "fault", "item=None"])
        self.assertEqual(parameters(errors.InvalidTemplate), ["word", "fault", "item=None"])
        self.assertEqual(parameters(errors.OtherSchema), [])


if __name__ == "__main__":
    unittest.main()
