"""Tests of the names, parameters and places of definition that the interface lists."""

import importlib
import inspect
import unittest

CLASSES = {
    "ruleengine.forms": {"Form": ("of",), "Schema": ("of", "__contains__", "__getitem__", "__eq__")},
    "ruleengine.trees": {
        "Tree": ("each_path", "put", "__len__", "__eq__", "__contains__", "__getitem__"),
        "Var": ("__eq__",), "Word": ("__eq__",), "Rest": ("__eq__",), "Like": ("__eq__",),
    },
    "ruleengine.patterns": {
        "Pattern": ("takes", "all_taken", "__call__", "__contains__", "__eq__", "__le__", "__lt__", "__and__",
                    "__or__"),
    },
    "ruleengine.conditions": {
        kind: ("__and__", "__or__", "__neg__") for kind in ("Has", "Inside", "All", "Some", "Not")
    },
    "ruleengine.rules": {
        "Rule": (), "Finding": ("__eq__",),
        "RuleSet": ("of", "__len__", "__contains__", "__getitem__", "pattern", "relation", "run", "judge", "check"),
    },
    "ruleengine.flows": {
        "Plan": (), "Question": ("__eq__",),
        "Flow": ("plan", "points", "nexts", "ask", "check", "to_reach", "to_do", "to_unset", "to_bring", "unreached",
                 "unset_uses", "idle_sets"),
    },
    "ruleengine.guards": {
        "Reached": ("__and__", "__or__", "__neg__"), "Unset": ("__and__", "__or__", "__neg__"),
        "Later": ("__and__", "__or__", "__neg__"), "FlowRules": ("run", "judge", "check"),
    },
    "ruleengine.fixes": {"Fixer": ("template", "fix", "fix_all", "settles", "shrinks", "finish")},
    "ruleengine.endings": {"Crossing": ()},
    "ruleengine.benches": {
        "Suppression": ("__eq__",), "Report": (),
        "Bench": ("put", "suppress", "undo", "report", "history"),
    },
}
FUNCTIONS = {
    "ruleengine.patterns": ("mismatch", "check_tree", "do_meet", "covers", "check_cover", "learned"),
    "ruleengine.fixes": ("do_overlap", "innermost", "outermost"),
    "ruleengine.endings": ("all_crossings", "decide_endings", "check_endings"),
    "ruleengine.benches": ("reported",),
}


def parameters(call):
    """The names of the parameters of a function or a class, with the stars in front of them."""
    return [str(parameter) for parameter in inspect.signature(call).parameters.values()]


class InterfaceTest(unittest.TestCase):

    def test_classes_stand_in_their_modules(self):
        for module, classes in CLASSES.items():
            for name, methods in classes.items():
                kind = getattr(importlib.import_module(module), name)
                self.assertEqual(kind.__module__, module)
                for method in (*methods, "__init__"):
                    self.assertIn(method, vars(kind), name)

    def test_parameters(self):
        forms, trees = importlib.import_module("ruleengine.forms"), importlib.import_module("ruleengine.trees")
        self.assertEqual(parameters(forms.Form), ["name", "sort", "**slots"])
        self.assertEqual(parameters(forms.Form.of), ["name", "sort", "slots"])
        self.assertEqual(parameters(forms.Schema), ["*forms"])
        self.assertEqual(parameters(forms.Schema.of), ["forms"])
        self.assertEqual(parameters(trees.Tree), ["form", "*parts"])
        self.assertEqual(parameters(trees.Tree.put), ["self", "path", "other"])
        self.assertEqual(parameters(trees.Like), ["form", "*parts"])
        for kind in (trees.Var, trees.Word, trees.Rest):
            self.assertEqual(parameters(kind), ["name"])

    def test_functions_stand_in_their_modules(self):
        for module, functions in FUNCTIONS.items():
            for name in functions:
                self.assertEqual(getattr(importlib.import_module(module), name).__module__, module)

    def test_parameters_of_patterns(self):
        patterns = importlib.import_module("ruleengine.patterns")
        self.assertEqual(parameters(patterns.Pattern), ["schema", "root", "sort=None"])
        self.assertEqual(parameters(patterns.Pattern.takes), ["self", "name"])
        self.assertEqual(parameters(patterns.Pattern.__call__), ["self", "tree"])
        self.assertEqual(parameters(patterns.mismatch), ["pattern", "tree"])
        self.assertEqual(parameters(patterns.check_tree), ["schema", "tree"])
        self.assertEqual(parameters(patterns.do_meet), ["one", "other"])
        self.assertEqual(parameters(patterns.covers), ["one", "other"])
        self.assertEqual(parameters(patterns.check_cover), ["one", "other", "answer"])
        self.assertEqual(parameters(patterns.learned), ["schema", "good", "bad"])

    def test_parameters_of_conditions(self):
        conditions = importlib.import_module("ruleengine.conditions")
        for kind in (conditions.Has, conditions.Inside):
            self.assertEqual(parameters(kind), ["root", "where=None", "sort=None"])
            self.assertEqual(inspect.signature(kind).parameters["sort"].kind, inspect.Parameter.KEYWORD_ONLY)
        self.assertEqual(parameters(conditions.All), ["*conditions"])
        self.assertEqual(parameters(conditions.Some), ["*conditions"])
        self.assertEqual(parameters(conditions.Not), ["condition"])
        self.assertIn("MAX_NESTING", vars(conditions.Condition))

    def test_parameters_of_rules(self):
        rules = importlib.import_module("ruleengine.rules")
        self.assertEqual(parameters(rules.Rule), ["name", "root", "condition=None", "sort=None"])
        self.assertEqual(inspect.signature(rules.Rule).parameters["sort"].kind, inspect.Parameter.KEYWORD_ONLY)
        self.assertEqual(parameters(rules.Finding), ["rule", "path", "binding"])
        self.assertEqual(parameters(rules.RuleSet), ["schema", "*rules"])
        self.assertEqual(parameters(rules.RuleSet.of), ["schema", "rules"])
        self.assertEqual(parameters(rules.RuleSet.pattern), ["self", "name"])
        self.assertEqual(parameters(rules.RuleSet.relation), ["self", "one", "other"])
        self.assertEqual(parameters(rules.RuleSet.run), ["self", "tree"])
        self.assertEqual(parameters(rules.RuleSet.judge), ["self", "name", "tree", "path"])
        self.assertEqual(parameters(rules.RuleSet.check), ["self", "name", "tree", "path", "answer"])

    def test_parameters_of_flows(self):
        flows = importlib.import_module("ruleengine.flows")
        self.assertEqual(parameters(flows.Plan), ["order='steps'", "sets=None", "uses=None"])
        for name in ("sets", "uses"):
            self.assertEqual(inspect.signature(flows.Plan).parameters[name].kind, inspect.Parameter.KEYWORD_ONLY)
        self.assertEqual(parameters(flows.Question), ["start", "avoid", "goal"])
        self.assertEqual(parameters(flows.Flow), ["schema", "plans"])
        wanted = {"plan": ["name"], "points": ["tree"], "nexts": ["tree", "point"], "ask": ["tree", "question"],
                  "check": ["tree", "question", "answer"], "to_reach": ["tree", "path"], "to_do": ["tree", "path"],
                  "to_unset": ["tree", "path"], "to_bring": ["tree", "path", "use"], "unreached": ["tree"],
                  "unset_uses": ["tree"], "idle_sets": ["tree"]}
        for name, named in wanted.items():
            self.assertEqual(parameters(getattr(flows.Flow, name)), ["self", *named])

    def test_parameters_of_guards(self):
        guards = importlib.import_module("ruleengine.guards")
        self.assertEqual(parameters(guards.Reached), [])
        self.assertEqual(parameters(guards.Unset), ["word"])
        self.assertEqual(parameters(guards.Later), ["word"])
        for kind in (guards.Reached, guards.Unset, guards.Later):
            self.assertEqual(kind.__bases__, (guards.Guard,))
        self.assertEqual(parameters(guards.FlowRules), ["rules", "flow", "guards"])
        self.assertEqual(parameters(guards.FlowRules.run), ["self", "tree"])
        self.assertEqual(parameters(guards.FlowRules.judge), ["self", "name", "tree", "path"])
        self.assertEqual(parameters(guards.FlowRules.check), ["self", "name", "tree", "path", "answer"])

    def test_parameters_of_fixes(self):
        fixes = importlib.import_module("ruleengine.fixes")
        self.assertEqual(parameters(fixes.Fixer), ["rules", "templates"])
        wanted = {"template": ["name"], "fix": ["tree", "finding"], "fix_all": ["tree", "*findings"],
                  "settles": ["name"], "shrinks": ["name"], "finish": ["tree", "order='outer'"]}
        for name, named in wanted.items():
            self.assertEqual(parameters(getattr(fixes.Fixer, name)), ["self", *named])
        self.assertEqual(parameters(fixes.do_overlap), ["one", "other"])
        self.assertEqual(parameters(fixes.innermost), ["findings"])
        self.assertEqual(parameters(fixes.outermost), ["findings"])

    def test_parameters_of_endings(self):
        endings = importlib.import_module("ruleengine.endings")
        self.assertEqual(parameters(endings.all_crossings), ["fixer"])
        self.assertEqual(parameters(endings.decide_endings), ["fixer"])
        self.assertEqual(parameters(endings.check_endings), ["fixer", "answer"])

    def test_parameters_of_benches(self):
        benches = importlib.import_module("ruleengine.benches")
        self.assertEqual(parameters(benches.Suppression), ["path", "*names"])
        self.assertEqual(parameters(benches.reported), ["rules", "tree", "*suppressions"])
        self.assertEqual(parameters(benches.Bench), ["rules", "tree"])
        wanted = {"put": ["path", "other"], "suppress": ["path", "*names"], "undo": [], "report": [], "history": []}
        for name, named in wanted.items():
            self.assertEqual(parameters(getattr(benches.Bench, name)), ["self", *named])
        self.assertEqual(vars(benches.Bench)["MAX_EDITS"], 60)

    def test_errors_stand_in_their_module(self):
        errors = importlib.import_module("ruleengine.errors")
        self.assertEqual(parameters(errors.InvalidSchema), ["fault", "item=None"])
        self.assertEqual(parameters(errors.InvalidRule), ["spot", "fault", "item=None"])
        self.assertEqual(parameters(errors.InvalidTemplate), ["word", "fault", "item=None"])
        self.assertEqual(parameters(errors.OtherSchema), [])


if __name__ == "__main__":
    unittest.main()
