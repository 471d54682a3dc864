"""Tests of run, judge and check of sets of rules in ruleengine.rules, worked out by hand."""

import unittest

from ruleengine.conditions import All, Has, Inside, Not, Some
from ruleengine.errors import InvalidAnswer, InvalidPath, UnknownName, WrongTree
from ruleengine.rules import Finding, Rule, RuleSet
from ruleengine.trees import Tree, Var, Word
from tests.helpers import Agreeable, Case, nested, odd_arguments, repeated
from tests.samples import (
    ONE, PASS, R, S, SCHEMA, THREE, TWO, U, W, X, Y, add, call, let, make_schema, neg, negs, p_add, p_call, p_neg,
    p_num, some_things)

# Let("v", Add(Neg(Num("1")), Num("2")), [Pass()], [Num("1"), Call("f", [Num("2"), Neg(Num("2"))])])
TREE = let("v", add(neg(ONE), TWO), (PASS,), (ONE, call("f", TWO, neg(TWO))))
MISFIT = ("mismatch", ((), None, "form"))


def one_rule(root, condition=None, sort=None):
    """A set of one rule that is called a."""
    return RuleSet(SCHEMA, Rule("a", root, condition, sort=sort))


def paths(rules, tree=TREE):
    """The paths of the findings."""
    return [finding.path for finding in rules.run(tree)]


class RunTest(Case):

    def test_patterns_alone(self):
        self.assertEqual(paths(one_rule(p_num(W))), [(0, 0, 0), (0, 1), (2,), (3, 0), (3, 1, 0)])
        self.assertEqual(paths(one_rule(ONE)), [(0, 0, 0), (2,)])
        self.assertEqual(paths(one_rule(X, sort="expr")),
                         [(0,), (0, 0), (0, 0, 0), (0, 1), (2,), (3,), (3, 0), (3, 1), (3, 1, 0)])
        self.assertEqual(paths(one_rule(S, sort="stmt")), [(), (1,)])
        self.assertEqual(paths(one_rule(p_call("f", X, p_neg(X)))), [(3,)])
        self.assertEqual(paths(one_rule(p_call("f", X, X))), [])

    def test_findings(self):
        rules = RuleSet(SCHEMA, Rule("neg", p_neg(X)), Rule("any", Y, sort="expr"), Rule("again", p_neg(p_num(W))))
        tree = add(neg(ONE), TWO)
        wanted = [
            Finding("any", (), {"y": tree}), Finding("neg", (0,), {"x": ONE}), Finding("any", (0,), {"y": neg(ONE)}),
            Finding("again", (0,), {"w": "1"}), Finding("any", (0, 0), {"y": ONE}), Finding("any", (1,), {"y": TWO})]
        found = list(rules.run(tree))
        self.assertEqual(found, wanted)
        self.assertEqual([type(finding) for finding in found], [Finding] * 6)
        self.assertEqual(list(rules.run(tree=tree)), wanted)

    def test_has(self):
        self.assertEqual(paths(one_rule(X, Has(p_neg(Y)), "expr")), [(0,), (3,)])
        self.assertEqual(paths(one_rule(S, Has(p_neg(Y)), "stmt")), [()])
        self.assertEqual(paths(one_rule(X, Has(Var("y"), sort="expr"), "expr")), [(0,), (0, 0), (3,), (3, 1)])
        # The node itself is not below itself.
        self.assertEqual(paths(one_rule(p_neg(X), Has(p_neg(Y)))), [])
        self.assertEqual(paths(one_rule(p_neg(X), Has(p_neg(Y))), neg(neg(neg(ONE)))), [(), (0,)])

    def test_inside(self):
        self.assertEqual(paths(one_rule(p_num(W), Inside(p_neg(Y)))), [(0, 0, 0), (3, 1, 0)])
        self.assertEqual(paths(one_rule(p_num(W), Inside(p_call("f", R)))), [(3, 0), (3, 1, 0)])
        self.assertEqual(paths(one_rule(X, Inside(S, sort="stmt"), "expr")), paths(one_rule(X, sort="expr")))
        self.assertEqual(paths(one_rule(S, Inside(Var("t"), sort="stmt"), "stmt")), [(1,)])
        self.assertEqual(paths(one_rule(p_neg(X), Inside(p_neg(Y))), neg(neg(neg(ONE)))), [(0,), (0, 0)])

    def test_bound_variables_compare(self):
        # A number that stands inside a negation of itself, or beside one.
        self.assertEqual(paths(one_rule(X, Inside(p_neg(X)), "expr")), [(0, 0, 0), (3, 1, 0)])
        self.assertEqual(paths(one_rule(X, Inside(p_call("f", X, R)), "expr")), [(3, 0), (3, 1, 0)])
        self.assertEqual(paths(one_rule(p_call(W, R), Has(p_num(W)))), [])
        self.assertEqual(paths(one_rule(p_call(W, R), Has(p_num(W))), call("2", TWO)), [()])
        self.assertEqual(paths(one_rule(p_call(W, R), Has(p_call(W, R))), call("f", call("f", ONE), call("f"))), [])
        self.assertEqual(paths(one_rule(p_call(W, ONE, R), Has(p_call(U, R))), call("f", ONE, call("g"), ONE)), [])
        # The rest would have to contain itself; one item fewer is another row.
        self.assertEqual(paths(one_rule(p_call(W, X, R), Has(p_call(U, R))), call("f", call("g"))), [()])
        # A variable that stands for the node itself is not found below it.
        self.assertEqual(paths(one_rule(X, Has(X, sort="expr"), "expr")), [])
        self.assertEqual(paths(one_rule(p_add(X, Y), Has(p_neg(X)))), [])
        self.assertEqual(paths(one_rule(p_add(X, Y), Has(p_neg(X))), add(ONE, neg(ONE))), [()])
        self.assertEqual(paths(one_rule(p_add(X, Y), Has(p_neg(X))), add(neg(ONE), ONE)), [])

    def test_inner_conditions(self):
        rules = one_rule(S, Has(p_call(W, R), Has(p_neg(Y))), "stmt")
        self.assertEqual(paths(rules), [()])
        self.assertEqual(paths(one_rule(S, Has(p_neg(X), Inside(p_neg(Y))), "stmt")), [])
        self.assertEqual(paths(one_rule(S, Has(p_neg(X), Inside(p_call("f", R))), "stmt")), [()])
        # What the outer condition binds, the inner one compares.
        self.assertEqual(paths(one_rule(S, Has(p_neg(X), Inside(p_add(p_neg(X), Y))), "stmt")), [()])
        self.assertEqual(paths(one_rule(S, Has(p_neg(X), Inside(p_call(W, X, R))), "stmt")), [()])
        self.assertEqual(paths(one_rule(S, Has(p_neg(X), Inside(p_call(W, p_neg(X), R))), "stmt")), [])
        self.assertEqual(paths(one_rule(p_num(W), Inside(p_add(X, Y), Has(p_num(W))))), [(0, 0, 0), (0, 1)])
        self.assertEqual(paths(one_rule(p_num(W), Inside(p_add(X, p_num(W)), Inside(S, sort="stmt")))), [(0, 1)])
        tree = add(add(ONE, neg(ONE)), add(neg(THREE), TWO))
        self.assertEqual(paths(one_rule(p_num(W), Inside(p_add(X, Y), Has(p_neg(p_num(W))))), tree),
                         [(0, 0), (0, 1, 0), (1, 0, 0)])
        self.assertEqual(paths(one_rule(p_num(W), Inside(p_add(X, Y), -Has(p_neg(p_num(W))))), tree), [(1, 1)])

    def test_only_the_inner_condition_knows_the_larger_binding(self):
        both = Has(p_neg(Y)) & Has(p_num(Word("y")))
        self.assertEqual(paths(one_rule(X, both, "expr")), [(0,), (3,)])
        # The same name may stand for different things in two conditions.
        tree = add(neg(ONE), neg(TWO))
        self.assertEqual(paths(one_rule(p_add(X, Var("k")), Has(p_neg(Y), Inside(p_add(p_neg(Y), Var("m")))) & Has(
            p_neg(Y), Inside(p_add(Var("m"), p_neg(Y))))), tree), [()])
        self.assertEqual(paths(one_rule(p_add(X, Var("k")), Has(p_neg(Y), Inside(p_add(p_neg(Y), p_neg(Y))))), tree),
                         [])

    def test_all_some_and_not(self):
        neg_below, num_below, none = Has(p_neg(Y)), Has(ONE), Has(p_call("g", R))
        for condition, wanted in (
                (All(), [(0,), (3,)]), (Some(), []), (Not(All()), []), (-Some(), [(0,), (3,)]),
                (neg_below, [(0,), (3,)]),
                (num_below, [(0,)]), (none, []), (neg_below & num_below, [(0,)]), (neg_below | num_below, [(0,), (3,)]),
                (none | num_below, [(0,)]), (-num_below, [(3,)]), (-none & -num_below, [(3,)]),
                (-(none | num_below), [(3,)]),
                (All(neg_below, num_below, none), []), (Some(none, none, num_below), [(0,)]), (-(-num_below), [(0,)]),
                (All(All(), Some(none, All(neg_below))), [(0,), (3,)]), (All(neg_below), [(0,), (3,)])):
            found = [path for path in paths(one_rule(X, condition, "expr")) if path in ((0,), (3,))]
            self.assertEqual(found, wanted)

    def test_inner_conditions_without_roots(self):
        self.assertEqual(paths(one_rule(X, Has(p_neg(Y), All()), "expr")), [(0,), (3,)])
        self.assertEqual(paths(one_rule(X, Has(p_neg(Y), Some()), "expr")), [])
        self.assertEqual(paths(one_rule(p_num(W), Inside(p_neg(Y), -Some()))), [(0, 0, 0), (3, 1, 0)])
        self.assertEqual(paths(one_rule(p_num(W), Inside(p_neg(Y), -All()))), [])

    def test_wrong_trees(self):
        rules = one_rule(p_neg(X))
        for tree, place in ((Tree("Sub"), ()), (add(ONE, Tree("Num")), (1,)), (neg(PASS), ())):
            self.check_raises(WrongTree, {}, lambda: list(rules.run(tree)))
            seen = []
            try:
                for finding in rules.run(tree):
                    seen.append(finding)
            except WrongTree as error:
                self.assertEqual((error.place, seen), (place, []))
        # The finding ahead of the wrong node is not told.
        self.check_raises(WrongTree, {}, lambda: next(iter(rules.run(add(neg(ONE), Tree("Num"))))))

    def test_two_runs_at_once(self):
        rules = RuleSet(SCHEMA, Rule("num", p_num(W), Inside(p_neg(X))), Rule("neg", p_neg(X), Has(p_num(W))))
        other = add(neg(neg(ONE)), TWO)
        alone, beside = list(rules.run(TREE)), list(rules.run(other))
        self.assertEqual([(one, two) for one in rules.run(TREE) for two in rules.run(other)],
                         [(one, two) for one in alone for two in beside])
        first, second = iter(rules.run(TREE)), iter(rules.run(TREE))
        mixed = []
        for _ in alone:
            mixed.append((next(first), next(second)))
        self.assertEqual(mixed, list(zip(alone, alone)))

    def test_sets_with_equal_schemas(self):
        rules = RuleSet(make_schema(), Rule("a", p_neg(X)))
        self.assertEqual(paths(rules), [(0, 0), (3, 1)])

    def test_bindings_of_findings_are_new(self):
        rules = one_rule(p_neg(X))
        finding = next(iter(rules.run(TREE)))
        finding.binding["x"] = None
        self.assertEqual(finding.binding, {"x": ONE})
        self.assertEqual(next(iter(rules.run(TREE))), finding)


class JudgeTest(Case):

    def check_judged(self, rules, path, answer, tree=TREE):
        """Check an answer, and that it is a correct one."""
        found = rules.judge("a", tree, path)
        self.assertEqual(found, answer)
        self.assertIs(type(found), tuple)
        self.assertEqual(rules.check("a", tree, path, found), answer[0])
        self.assertEqual(rules.check("a", tree, path, answer), answer[0])

    def test_without_a_condition(self):
        rules = one_rule(p_call(W, X, R))
        self.check_judged(rules, (3,), ("found", {"w": "f", "x": TWO, "r": (neg(TWO),)}, None))
        self.check_judged(rules, (), ("not", MISFIT))
        self.check_judged(rules, (0, 1), ("not", MISFIT))
        self.check_judged(one_rule(p_call(W, X, X)), (3,), ("not", ("mismatch", ((1,), None, "equal"))))
        self.check_judged(one_rule(p_call("g", R)), (3,), ("not", ("mismatch", ((), "what", "text"))))
        self.check_judged(one_rule(p_call("f", X)), (3,), ("not", ("mismatch", ((), "args", "length"))))
        self.check_judged(one_rule(p_call("f", X, p_neg(ONE))), (3,), ("not", ("mismatch", ((1, 0), "value", "text"))))
        self.check_judged(one_rule(S, sort="stmt"), (0,), ("not", MISFIT))

    def test_grounds_of_has(self):
        rules = one_rule(p_call(W, X, R), Has(p_neg(Y)))
        binding = {"w": "f", "x": TWO, "r": (neg(TWO),)}
        self.check_judged(rules, (3,), ("found", binding, ("at", (3, 1), {"y": TWO}, None)))
        # The binding of all variables of the root, also of those that are bound already.
        rules = one_rule(p_call(W, X, R), Has(p_add(p_neg(X), p_num(U))))
        tree = neg(call("g", ONE, neg(add(neg(ONE), TWO))))
        self.check_judged(rules, (0,), ("found", {"w": "g", "x": ONE, "r": (tree[0, 1],)},
                                        ("at", (0, 1, 0), {"x": ONE, "u": "2"}, None)), tree)

    def test_refutations_of_has(self):
        rules = one_rule(p_call(W, X, R), Has(p_num(W)))
        self.check_judged(rules, (3,), ("not", ("condition", ("nowhere", (
            ((3, 0), ("mismatch", ((), "value", "equal"))), ((3, 1), MISFIT),
            ((3, 1, 0), ("mismatch", ((), "value", "equal"))))))))
        self.check_judged(one_rule(p_neg(X), Has(p_neg(p_neg(X)))), (0, 0), ("not", ("condition", ("nowhere", (
            ((0, 0, 0), MISFIT),)))))
        self.check_judged(one_rule(p_num(W), Has(p_num(U))), (2,), ("not", ("condition", ("nowhere", ()))))
        tree = neg(neg(neg(ONE)))
        self.check_judged(one_rule(p_neg(X), Has(p_neg(p_neg(p_neg(Y))))), (), ("not", ("condition", ("nowhere", (
            ((0,), ("mismatch", ((0, 0), None, "form"))), ((0, 0), ("mismatch", ((0,), None, "form"))),
            ((0, 0, 0), MISFIT))))), tree)

    def test_grounds_of_inside(self):
        self.check_judged(one_rule(p_num(W), Inside(p_call(U, R))), (3, 1, 0), ("found", {"w": "2"}, (
            "at", (3,), {"u": "f", "r": (TWO, neg(TWO))}, None)))
        self.check_judged(one_rule(p_num(W), Inside(Var("s"), sort="stmt")), (2,), (
            "found", {"w": "1"}, ("at", (), {"s": TREE}, None)))

    def test_refutations_of_inside(self):
        # From the nearest one on.
        self.check_judged(one_rule(p_num(W), Inside(p_call("g", R))), (3, 1, 0), ("not", ("condition", ("nowhere", (
            ((3, 1), MISFIT), ((3,), ("mismatch", ((), "what", "text"))), ((), MISFIT))))))
        self.check_judged(one_rule(S, Inside(p_neg(X)), "stmt"), (), ("not", ("condition", ("nowhere", ()))))
        self.check_judged(one_rule(p_neg(X), Inside(p_add(X, Y))), (0, 0), ("not", ("condition", ("nowhere", (
            ((0,), ("mismatch", ((0,), None, "equal"))), ((), MISFIT))))))

    def test_inner_conditions(self):
        rules = one_rule(S, Has(p_call(W, R), Has(p_neg(Y))), "stmt")
        self.check_judged(rules, (), ("found", {"s": TREE}, ("at", (3,), {"w": "f", "r": (TWO, neg(TWO))}, (
            "at", (3, 1), {"y": TWO}, None))))
        self.check_judged(rules, (1,), ("not", ("condition", ("nowhere", ()))))
        rules = one_rule(p_add(X, Y), Has(p_neg(Var("z")), Inside(p_neg(Var("z")))))
        self.check_judged(rules, (0,), ("not", ("condition", ("nowhere", (
            ((0, 0), ("inner", ("nowhere", (((0,), MISFIT), ((), MISFIT))))), ((0, 0, 0), MISFIT), ((0, 1), MISFIT))))))

    def test_all(self):
        first, second, none = Has(p_neg(Y)), Has(TWO), Has(p_call("g", R))
        at_first, at_second = ("at", (0, 0), {"y": ONE}, None), ("at", (0, 1), {}, None)
        nowhere = ("nowhere", (((0, 0), MISFIT), ((0, 0, 0), MISFIT), ((0, 1), MISFIT)))
        binding = {"x": neg(ONE)}
        root = p_add(X, TWO)
        self.check_judged(one_rule(root, first & second), (0,), ("found", binding, ("each", (at_first, at_second))))
        self.check_judged(one_rule(root, All()), (0,), ("found", binding, ("each", ())))
        self.check_judged(one_rule(root, All(second)), (0,), ("found", binding, ("each", (at_second,))))
        self.check_judged(one_rule(root, first & none), (0,), ("not", ("condition", ("one", 1, nowhere))))
        self.check_judged(one_rule(root, All(none)), (0,), ("not", ("condition", ("one", 0, nowhere))))

    def test_some(self):
        first, none = Has(p_neg(Y)), Has(p_call("g", R))
        at_first = ("at", (0, 0), {"y": ONE}, None)
        nowhere = ("nowhere", (((0, 0), MISFIT), ((0, 0, 0), MISFIT), ((0, 1), MISFIT)))
        binding = {"x": neg(ONE)}
        root = p_add(X, TWO)
        self.check_judged(one_rule(root, none | first), (0,), ("found", binding, ("one", 1, at_first)))
        self.check_judged(one_rule(root, Some(none, none)), (0,), ("not", ("condition", ("each", (nowhere, nowhere)))))
        self.check_judged(one_rule(root, Some()), (0,), ("not", ("condition", ("each", ()))))

    def test_not(self):
        first, none = Has(p_neg(Y)), Has(p_call("g", R))
        at_first = ("at", (0, 0), {"y": ONE}, None)
        nowhere = ("nowhere", (((0, 0), MISFIT), ((0, 0, 0), MISFIT), ((0, 1), MISFIT)))
        binding = {"x": neg(ONE)}
        root = p_add(X, TWO)
        self.check_judged(one_rule(root, -none), (0,), ("found", binding, ("not", nowhere)))
        self.check_judged(one_rule(root, -first), (0,), ("not", ("condition", ("not", at_first))))
        self.check_judged(one_rule(root, -(-first)), (0,), ("found", binding, ("not", ("not", at_first))))
        self.check_judged(one_rule(root, -All()), (0,), ("not", ("condition", ("not", ("each", ())))))
        self.check_judged(one_rule(root, -Some(none)), (0,), ("found", binding, ("not", ("each", (nowhere,)))))

    def test_answers_are_new_each_time(self):
        rules = one_rule(p_call(W, X, R), Has(p_neg(Y)))
        answer = rules.judge("a", TREE, (3,))
        answer[1].clear()
        answer[2][2]["y"] = None
        self.assertEqual(rules.judge("a", TREE, (3,))[1]["w"], "f")
        self.assertEqual(rules.judge("a", TREE, (3,))[2], ("at", (3, 1), {"y": TWO}, None))

    def test_faults_of_arguments(self):
        rules = one_rule(p_neg(X))
        wrong = Tree("Num")
        for label, value in odd_arguments() + [("a text", "b"), ("a name", "neg"), ("a tree", ONE)]:
            with self.subTest(label):
                for call_it in (lambda: rules.judge(value, TREE, ()), lambda: rules.judge(value, wrong, value),
                                lambda: rules.check(value, TREE, (), None),
                                lambda: rules.check(value, wrong, None, None)):
                    self.check_raises(UnknownName, {"word": value}, call_it)
                for call_it in (lambda: rules.judge("a", TREE, value), lambda: rules.check("a", TREE, value, None)):
                    self.check_raises(InvalidPath, {"value": value}, call_it)
                for call_it in (lambda: rules.judge("a", wrong, value), lambda: rules.check("a", wrong, value, value)):
                    self.check_raises(WrongTree, {}, call_it)
        for path in ((4,), (-1,), (True,), (0, False), [0], (0, 0, 0, 0), (10 ** 999,), ((0,),)):
            self.check_raises(InvalidPath, {"value": path}, lambda: rules.judge("a", TREE, path))
            self.check_raises(InvalidPath, {"value": path}, lambda: rules.check("a", TREE, path, ("not", MISFIT)))

    def test_arguments_by_name(self):
        rules = one_rule(p_neg(X))
        self.assertEqual(rules.judge(path=(2,), tree=TREE, name="a"), ("not", MISFIT))
        self.assertEqual(rules.check(answer=("not", MISFIT), path=(2,), tree=TREE, name="a"), "not")


class CheckTest(Case):

    def check_wrong(self, part, rules, path, answer, tree=TREE):
        self.check_raises(InvalidAnswer, {"part": part}, lambda: rules.check("a", tree, path, answer))

    def test_wrong_forms(self):
        for rules in (one_rule(p_neg(X)), one_rule(p_neg(X), Has(TWO))):
            values = odd_arguments() + some_things() + [
                ("found alone", ("found",)), ("found of two", ("found", {})),
                ("found of four", ("found", {}, None, None)),
                ("not alone", ("not",)), ("not of three", ("not", MISFIT, None)), ("a list", ["not", MISFIT]),
                ("another word", ("nor", MISFIT)), ("a text", "not"), ("nothing", ()), ("turned", (MISFIT, "not")),
                ("True", (True, MISFIT)), ("a word in a tuple", (("not",), MISFIT)), ("bytes", (b"not", MISFIT)),
                ("long", (repeated(tuple), None)), ("long too", (repeated(tuple), None, None)), ("None", (None, None))]
            for path in ((0, 0), (2,)):
                for label, answer in values:
                    with self.subTest(label):
                        self.check_wrong("form", rules, path, answer)

    def test_wrong_bindings(self):
        rules = one_rule(p_call(W, X, R))
        right = {"w": "f", "x": TWO, "r": (neg(TWO),)}
        self.assertEqual(rules.check("a", TREE, (3,), ("found", right, None)), "found")
        values = odd_arguments() + some_things() + [
            ("a Like", p_num("2")), ("its text", 'Num("2")'), ("a Var", X), ("a Word", Word("f")),
            ("another text", "g"),
            ("another tree", THREE), ("another row", (TWO,)), ("no row", ()), ("a longer row", (neg(TWO), neg(TWO))),
            ("a list", [neg(TWO)]), ("a row of a Like", (p_neg(TWO),)), ("the item alone", neg(TWO)), ("a Rest", R),
            ("a row of a Rest", (R,))]
        for name in right:
            for label, value in values:
                with self.subTest(name + " " + label):
                    self.check_wrong("binding", rules, (3,), ("found", {**right, name: value}, None))
            less = {key: value for key, value in right.items() if key != name}
            self.check_wrong("binding", rules, (3,), ("found", less, None))
            self.check_wrong("binding", rules, (3,), ("found", {**less, name + "_": right[name]}, None))
        self.check_wrong("binding", rules, (3,), ("found", {**right, "y": ONE}, None))
        self.check_wrong("binding", rules, (3,), ("found", {**right, 1: ONE}, None))
        for label, value in odd_arguments() + [("pairs", tuple(right.items())),
                                               ("a list of pairs", list(right.items()))]:
            with self.subTest(label):
                self.check_wrong("binding", rules, (3,), ("found", value, None))
        self.check_wrong("binding", rules, (0,), ("found", {}, None))
        self.check_wrong("binding", rules, (0,), ("found", right, "x"))
        self.assertEqual(right, {"w": "f", "x": TWO, "r": (neg(TWO),)})

    def test_reasons_without_a_condition(self):
        rules = one_rule(p_neg(X))
        for label, value in odd_arguments() + [("grounds", ("each", ())), ("grounds of Has", ("at", (0,), {}, None))]:
            if value is not None:
                with self.subTest(label):
                    self.check_wrong("reason", rules, (0, 0), ("found", {"x": ONE}, value))
            with self.subTest(label):
                self.check_wrong("reason", rules, (0, 0), ("not", value))
                self.check_wrong("reason", rules, (2,), ("not", value))
        for reason in (MISFIT, ("condition", ("nowhere", ())), ("condition", None), ("condition", ("each", ()))):
            self.check_wrong("reason", rules, (0, 0), ("not", reason))

    def test_wrong_mismatches(self):
        rules = one_rule(p_call("f", X, p_neg(ONE)))
        right = ((1, 0), "value", "text")
        self.assertEqual(rules.check("a", TREE, (3,), ("not", ("mismatch", right))), "not")
        firsts = [value for _, value in odd_arguments()] + [
            ((1, 0), "value"), ((1, 0), "value", "text", None), ((1,), "value", "text"), ((3, 1, 0), "value", "text"),
            ((True, 0), "value", "text"), ((1, False), "value", "text"), ([1, 0], "value", "text"),
            [(1, 0), "value", "text"],
            ((1, 0), None, "text"), ((1, 0), "what", "text"), ((1, 0), "value", "equal"), ((1, 0), "value", "form"),
            ((), None, "form"), ((1, 0, 0), "value", "text"), (None, "value", "text"), ((1, 0), ("value",), "text"),
            ((1, 0), b"value", "text"), ((1, 0), "value", None), (repeated(tuple), "value", "text"),
            ((0, 0), "value", "text"), ((1, 1), "value", "text"), (Agreeable(), "value", "text"),
            ((1, Agreeable()), "value", "text"), ((1, 0), Agreeable(), "text"), ((1, 0), "value", Agreeable()),
            ((1, 0), repeated(tuple), "text"), ((1, 0), "value", repeated(list)), ((1, 0), "value", True), None]
        for first in firsts:
            self.check_wrong("reason", rules, (3,), ("not", ("mismatch", first)))
        for reason in (right, ("mismatch", right, None), ("mismatch",), ["mismatch", right], ("misfit", right),
                       ("condition", right), ("mismatch", ("mismatch", right))):
            self.check_wrong("reason", rules, (3,), ("not", reason))

    def test_wrong_words_for_a_refutation(self):
        rules = one_rule(p_neg(X), Has(p_neg(Y)))
        right = ("nowhere", (((0, 0, 0), MISFIT),))
        self.assertEqual(rules.check("a", TREE, (0, 0), ("not", ("condition", right))), "not")
        for reason in (("mismatch", right), ("inner", right), ("conditions", right), ["condition", right],
                       (None, right),
                       ("condition", right, None), right, ("condition",), (Agreeable(), right), Agreeable()):
            self.check_wrong("reason", rules, (0, 0), ("not", reason))

    def test_a_slot_that_is_none(self):
        rules = one_rule(p_neg(X))
        for first in (((), "", "form"), ((), "None", "form"), ((), False, "form"), ((), 0, "form"), ((), (), "form")):
            self.check_wrong("reason", rules, (2,), ("not", ("mismatch", first)))

    def test_wrong_grounds_of_has(self):
        rules = one_rule(p_add(X, Y), Has(p_num(W)))
        binding = {"x": neg(ONE), "y": TWO}
        for right in (("at", (0, 0, 0), {"w": "1"}, None), ("at", (0, 1), {"w": "2"}, None)):
            self.assertEqual(rules.check("a", TREE, (0,), ("found", binding, right)), "found")
        # Numbers that are not below the node, or are given from it on.
        wrong = [("at", (2,), {"w": "1"}, None), ("at", (3, 0), {"w": "2"}, None), ("at", (1,), {"w": "2"}, None),
                 ("at", (0, 0), {}, None), ("at", (0, 1), {"w": "1"}, None), ("at", (0, 1), {}, None),
                 ("at", (0, 1), {"w": "2", "x": neg(ONE)}, None), ("at", (0, 1), {"w": "2"}),
                 ("at", (0, 1), {"w": "2"}, ()),
                 ("at", (0, 1), {"w": "2"}, ("each", ())), ("in", (0, 1), {"w": "2"}, None),
                 ("at", (0, True), {"w": "2"}, None),
                 ("at", (False, 1), {"w": "2"}, None), ("at", [0, 1], {"w": "2"}, None),
                 ["at", (0, 1), {"w": "2"}, None],
                 ("at", (0, 1), {"w": TWO}, None), ("at", (0, 1, 0), {"w": "2"}, None), ("at", (0,), {"w": "2"}, None),
                 ("at", (0, 1), None, None), ("at", repeated(tuple), {"w": "2"}, None),
                 ("at", (0, 1), repeated(dict), None),
                 ("at", (0, 1), {"w": "2"}, repeated(tuple)), ("at", (0, repeated(tuple)), {"w": "2"}, None),
                 ("one", 0, ("at", (0, 1), {"w": "2"}, None)), ("at", (0, 1), {"w": "2"}, None, None), ("nowhere", ())]
        for grounds in wrong + [value for _, value in odd_arguments()]:
            self.check_wrong("reason", rules, (0,), ("found", binding, grounds))

    def test_wrong_grounds_of_inside(self):
        rules = one_rule(p_num(W), Inside(X, sort="expr"))
        for right in (("at", (0, 0), {"x": neg(ONE)}, None), ("at", (0,), {"x": add(neg(ONE), TWO)}, None)):
            self.assertEqual(rules.check("a", TREE, (0, 0, 0), ("found", {"w": "1"}, right)), "found")
        for grounds in (("at", (), {"x": TREE}, None), ("at", (0, 0, 0), {"x": ONE}, None),
                        ("at", (0, 1), {"x": TWO}, None),
                        ("at", (0, 0), {"x": ONE}, None), ("at", (3,), {"x": TREE[3,]}, None)):
            self.check_wrong("reason", rules, (0, 0, 0), ("found", {"w": "1"}, grounds))

    def test_bound_variables_in_grounds(self):
        rules = one_rule(p_num(W), Inside(p_call(U, X, R), Has(p_num(W))))
        binding, row = {"w": "2"}, {"u": "f", "x": TWO, "r": (neg(TWO),)}
        for path in ((3, 0), (3, 1, 0)):
            for inner in ((3, 0), (3, 1, 0)):
                right = ("at", (3,), row, ("at", inner, {"w": "2"}, None))
                self.assertEqual(rules.check("a", TREE, path, ("found", binding, right)), "found")
        for inner in (("at", (3, 1), {"w": "2"}, None), ("at", (0, 1), {"w": "2"}, None),
                      ("at", (3, 0), {"w": "1"}, None), None,
                      ("at", (3, 0), {"w": "2", **row}, None)):
            self.check_wrong("reason", rules, (3, 0), ("found", binding, ("at", (3,), row, inner)))
        self.check_wrong("reason", rules, (3, 0), (
            "found", binding, ("at", (3,), {**row, "w": "2"}, ("at", (3, 0), {"w": "2"}, None))))

    def test_wrong_refutations_of_has(self):
        rules = one_rule(p_call(W, X, R), Has(p_num(W)))
        equal = ("mismatch", ((), "value", "equal"))
        rows = (((3, 0), equal), ((3, 1), MISFIT), ((3, 1, 0), equal))
        self.assertEqual(rules.check("a", TREE, (3,), ("not", ("condition", ("nowhere", rows)))), "not")
        wrong = [
            (), rows[:2], rows[1:], rows + rows[:1], rows[::-1], (rows[1], rows[0], rows[2]), list(rows), None, (rows,),
            (((0,), equal), ((1,), MISFIT), ((1, 0), equal)), (((3, False), equal), rows[1], rows[2]),
            (((3, 0), MISFIT), rows[1], rows[2]), (((3, 0), equal), rows[1], ((3, 1, 0), ("inner", None))),
            (((3, 0), equal), ((3, 1), equal), rows[2]), (rows[0], ((3, 1), ("inner", ("nowhere", ()))), rows[2]),
            (rows[0], ((3, 1), MISFIT, None), rows[2]), (rows[0], [(3, 1), MISFIT], rows[2]),
            (rows[0], ((3, 1),), rows[2]),
            (rows[0], ([3, 1], MISFIT), rows[2]), (rows[0], ((3, 1), ("mismatch", ((3, 1), None, "form"))), rows[2]),
            (rows[0], None, rows[2]), (rows[0], repeated(tuple), rows[2]), repeated(tuple), (repeated(tuple),) * 3,
            (rows[0], (repeated(tuple), MISFIT), rows[2]), (rows[0], ((3, 1), repeated(tuple)), rows[2]),
            (rows[0], ((3, 1), ("mismatch", repeated(tuple))), rows[2]), {0: rows}, nested(tuple)]
        for value in wrong + [value for _, value in odd_arguments()]:
            self.check_wrong("reason", rules, (3,), ("not", ("condition", ("nowhere", value))))
        for value in (("nowhere",), ("nowhere", rows, None), ["nowhere", rows], ("somewhere", rows), rows,
                      ("each", rows),
                      ("not", ("nowhere", rows)), ("one", 0, ("nowhere", rows)), None,
                      ("at", (3, 0), {"w": "2"}, None)):
            self.check_wrong("reason", rules, (3,), ("not", ("condition", value)))

    def test_wrong_refutations_of_inside(self):
        rules = one_rule(p_num(W), Inside(p_call("g", R)))
        rows = (((3, 1), MISFIT), ((3,), ("mismatch", ((), "what", "text"))), ((), MISFIT))
        self.assertEqual(rules.check("a", TREE, (3, 1, 0), ("not", ("condition", ("nowhere", rows)))), "not")
        for value in (rows[::-1], rows[:2], rows[1:], rows + (((3, 1, 0), MISFIT),), (((3, 1, 0), MISFIT),) + rows):
            self.check_wrong("reason", rules, (3, 1, 0), ("not", ("condition", ("nowhere", value))))

    def test_wrong_inner_refutations(self):
        rules = one_rule(p_add(X, Y), Has(p_num(W), Inside(p_call(U, R))))
        inner = ("nowhere", (((0, 0), MISFIT), ((0,), MISFIT), ((), MISFIT)))
        rows = (((0, 0), MISFIT), ((0, 0, 0), ("inner", inner)), ((0, 1), ("inner", ("nowhere", inner[1][1:]))))
        self.assertEqual(rules.check("a", TREE, (0,), ("not", ("condition", ("nowhere", rows)))), "not")
        for reason in (MISFIT, ("inner", ("nowhere", ())), ("inner", None), ("inner", inner, None), inner, ("inner",),
                       ("inner", ("nowhere", inner[1][1:])), ("outer", inner), ["inner", inner],
                       ("inner", ("not", inner)),
                       ("inner", repeated(tuple)), ("mismatch", inner)):
            self.check_wrong("reason", rules, (0,), ("not", ("condition", ("nowhere", (
                rows[0], ((0, 0, 0), reason), rows[2])))))

    def test_a_condition_that_holds_has_no_refutation(self):
        node = p_neg(Var("z"))
        for condition in (Has(node), All(), Not(Has(p_call("g", R))), Some(All()), Has(node, All())):
            rules = one_rule(p_add(X, Y), condition)
            answer = rules.judge("a", TREE, (0,))
            self.assertEqual(answer[0], "found")
            for reason in (("nowhere", (((0, 0), MISFIT), ((0, 0, 0), MISFIT), ((0, 1), MISFIT))), ("each", ()),
                           ("one", 0, ("each", ())), ("not", answer[2]), answer[2],
                           ("nowhere", (((0, 0), ("inner", ("each", ()))), ((0, 0, 0), MISFIT), ((0, 1), MISFIT)))):
                self.check_wrong("reason", rules, (0,), ("not", ("condition", reason)))
            self.check_wrong("reason", rules, (0,), ("not", MISFIT))

    def test_a_condition_that_does_not_hold_has_no_grounds(self):
        for condition in (Has(p_call("g", R)), Some(), -All(), All(Some(), All()), Has(p_neg(Var("z")), Some())):
            rules = one_rule(p_add(X, Y), condition)
            answer = rules.judge("a", TREE, (0,))
            self.assertEqual(answer[0], "not")
            binding = {"x": neg(ONE), "y": TWO}
            for grounds in (None, ("each", ()), ("one", 0, ("each", ())), ("at", (0, 0), {"z": ONE}, None),
                            ("at", (0, 0), {"z": ONE}, ("each", ())), ("not", ("each", ())), answer[1][1]):
                self.check_wrong("reason", rules, (0,), ("found", binding, grounds))

    def test_wrong_answers_for_all_some_and_not(self):
        at_neg, at_two = ("at", (0, 0), {"z": ONE}, None), ("at", (0, 1), {}, None)
        first, second, none = Has(p_neg(Var("z"))), Has(TWO), Has(p_call("g", R))
        nowhere = ("nowhere", (((0, 0), MISFIT), ((0, 0, 0), MISFIT), ((0, 1), MISFIT)))
        binding = {"x": neg(ONE), "y": TWO}
        both = one_rule(p_add(X, Y), first & second)
        for grounds in (("each", (at_two, at_neg)), ("each", (at_neg,)), ("each", (at_neg, at_two, at_two)),
                        ("each", ()),
                        ("each", [at_neg, at_two]), ("each", at_neg, at_two), ("one", 0, at_neg), (at_neg, at_two),
                        ["each", (at_neg, at_two)], ("each", (at_neg, None)), ("each", (at_neg, at_neg)),
                        ("each", None),
                        ("each", repeated(tuple)), ("each", (at_neg, repeated(tuple))), ("all", (at_neg, at_two))):
            self.check_wrong("reason", both, (0,), ("found", binding, grounds))
        some = one_rule(p_add(X, Y), Some(none, first, second))
        for spot, at in ((1, at_neg), (2, at_two)):
            self.assertEqual(some.check("a", TREE, (0,), ("found", binding, ("one", spot, at))), "found")
        for grounds in (("one", 0, at_neg), ("one", 3, at_neg), ("one", -1, at_two), ("one", -2, at_neg),
                        ("one", True, at_neg),
                        ("one", 1, at_two), ("one", None, at_neg), ("one", "1", at_neg), ("one", 10 ** 999, at_neg),
                        at_neg,
                        ("one", at_neg), ("one", 1, at_neg, None), ["one", 1, at_neg], ("each", (at_neg, at_two)),
                        ("one", (1,), at_neg), ("one", repeated(tuple), at_neg), ("one", 1, repeated(tuple))):
            self.check_wrong("reason", some, (0,), ("found", binding, grounds))
        all_three = one_rule(p_add(X, Y), All(first, none, none))
        for spot in (1, 2):
            self.assertEqual(all_three.check("a", TREE, (0,), ("not", ("condition", ("one", spot, nowhere)))), "not")
        for reason in (("one", 0, nowhere), ("one", 3, nowhere), ("one", -1, nowhere), ("one", True, nowhere), nowhere,
                       ("each", (nowhere, nowhere)), ("one", 1, at_neg)):
            self.check_wrong("reason", all_three, (0,), ("not", ("condition", reason)))
        no_one = one_rule(p_add(X, Y), none | none)
        self.assertEqual(no_one.check("a", TREE, (0,), ("not", ("condition", ("each", (nowhere, nowhere))))), "not")
        for reason in (("each", (nowhere,)), ("each", nowhere, nowhere), ("one", 0, nowhere), ("each", ())):
            self.check_wrong("reason", no_one, (0,), ("not", ("condition", reason)))
        negated = one_rule(p_add(X, Y), -none)
        for grounds in (nowhere, ("not", ("nowhere", ())), ("not", nowhere, None), ("not",), ["not", nowhere], None,
                        ("not", at_neg), ("not", ("not", nowhere)), ("not", repeated(tuple))):
            self.check_wrong("reason", negated, (0,), ("found", binding, grounds))

    def test_answers_for_another_node(self):
        rules = one_rule(p_num(W), Inside(p_neg(X)))
        answers = {path: rules.judge("a", TREE, path) for path in TREE.each_path()}
        for path in TREE.each_path():
            for other in TREE.each_path():
                if answers[path] == answers[other]:
                    self.assertEqual(rules.check("a", TREE, path, answers[other]), answers[path][0])
                else:
                    with self.assertRaises(InvalidAnswer):
                        rules.check("a", TREE, path, answers[other])

    def test_deep_paths(self):
        tree = negs(100)
        rules = one_rule(p_neg(X), Inside(p_neg(Y), Inside(p_num(W))))
        deep = (0,) * 98
        answer = rules.judge("a", tree, deep)
        self.assertEqual((answer[0], len(answer[1][1][1])), ("not", 98))
        self.assertEqual(rules.check("a", tree, deep, answer), "not")
        self.check_wrong("reason", rules, deep[1:], answer, tree)


if __name__ == "__main__":
    unittest.main()
