"""Tests of walks in ruleengine.patterns: bindings, `in`, mismatch and check_tree."""

import unittest

from ruleengine.errors import WrongTree
from ruleengine.forms import Form, Schema
from ruleengine.patterns import Pattern, check_tree, mismatch
from ruleengine.trees import Like, Rest, Tree, Var
from tests.helpers import Case, odd_arguments
from tests.samples import (
    ONE, PASS, Q, R, S, SCHEMA, THREE, TWO, U, W, X, Y, Z, add, call, expr, let, make_schema, neg, negs, num, p_add,
    p_call, p_let, p_neg, p_num, some_things, stmt)


class BindingTest(Case):

    def check_binding(self, pattern, tree, binding):
        """Check the binding with which a tree fits."""
        self.assertEqual(pattern(tree), binding)
        self.assertIs(type(pattern(tree)), dict)
        self.assertTrue((tree in pattern) is True)
        self.assertIsNone(mismatch(pattern, tree))

    def check_misfit(self, pattern, tree, path, slot, word):
        """Check the first mismatch."""
        self.assertIsNone(pattern(tree))
        self.assertTrue((tree in pattern) is False)
        found = mismatch(pattern, tree)
        self.assertEqual(found, (path, slot, word))
        self.assertIs(type(found), tuple)
        self.assertEqual([type(number) for number in found[0]], [int] * len(path))

    def test_nodes(self):
        self.check_binding(expr(p_add(X, Y)), add(ONE, TWO), {"x": ONE, "y": TWO})
        self.check_binding(expr(p_add(X, X)), add(ONE, num("1")), {"x": ONE})
        self.check_binding(expr(p_add(p_neg(X), X)), add(neg(TWO), TWO), {"x": TWO})
        self.check_binding(expr(add(ONE, TWO)), add(ONE, TWO), {})
        self.check_binding(expr(p_neg(p_neg(X))), neg(neg(neg(ONE))), {"x": neg(ONE)})

    def test_texts(self):
        self.check_binding(expr(p_num(W)), ONE, {"w": "1"})
        self.check_binding(expr(p_num("1")), ONE, {})
        self.check_binding(expr(p_add(p_num(W), p_call(W))), add(num("f"), call("f")), {"w": "f"})
        self.check_binding(expr(p_add(p_num(W), p_num(U))), add(ONE, ONE), {"w": "1", "u": "1"})

    def test_rows(self):
        tree = call("f", ONE, TWO, THREE)
        self.check_binding(expr(p_call("f", X, Y, Z)), tree, {"x": ONE, "y": TWO, "z": THREE})
        self.check_binding(expr(p_call(W, R)), tree, {"w": "f", "r": (ONE, TWO, THREE)})
        self.check_binding(expr(p_call(W, X, R)), tree, {"w": "f", "x": ONE, "r": (TWO, THREE)})
        self.check_binding(expr(p_call("f", X, Y, Z, R)), tree, {"x": ONE, "y": TWO, "z": THREE, "r": ()})
        self.check_binding(expr(p_call("f", R)), call("f"), {"r": ()})
        self.check_binding(expr(p_call("f")), call("f"), {})
        self.assertIs(type(expr(p_call("f", R))(tree)["r"]), tuple)

    def test_rests_that_occur_twice(self):
        pattern = expr(p_add(p_call("f", X, R), p_call("g", R)))
        self.check_binding(pattern, add(call("f", ONE, TWO), call("g", TWO)), {"x": ONE, "r": (TWO,)})
        self.check_binding(pattern, add(call("f", ONE), call("g")), {"x": ONE, "r": ()})
        self.check_misfit(pattern, add(call("f", ONE, TWO), call("g")), (1,), "args", "equal")
        self.check_misfit(pattern, add(call("f", ONE, TWO), call("g", THREE)), (1,), "args", "equal")
        self.check_misfit(pattern, add(call("f", ONE), call("g", TWO)), (1,), "args", "equal")
        self.check_misfit(pattern, add(call("f"), call("g")), (0,), "args", "length")

    def test_a_var_as_root(self):
        self.check_binding(expr(X), add(ONE, TWO), {"x": add(ONE, TWO)})
        self.check_binding(stmt(S), PASS, {"s": PASS})
        self.check_binding(expr(X), Tree("raw_expr", "?"), {"x": Tree("raw_expr", "?")})
        self.check_misfit(expr(X), PASS, (), None, "form")
        self.check_misfit(expr(X), let("a", ONE), (), None, "form")
        self.check_misfit(stmt(S), Tree("raw_expr", "?"), (), None, "form")

    def test_raw_forms(self):
        self.check_binding(expr(p_neg(Like("raw_expr", W))), neg(Tree("raw_expr", "?")), {"w": "?"})
        self.check_misfit(expr(p_neg(Like("raw_expr", W))), neg(ONE), (0,), None, "form")

    def test_several_sorts_and_rows(self):
        root = p_let(W, X, (S, Rest("m")), (X, R))
        tree = let("v", ONE, (PASS, let("v", TWO)), (ONE, THREE))
        self.check_binding(stmt(root), tree, {"w": "v", "x": ONE, "s": PASS, "m": (let("v", TWO),), "r": (THREE,)})

    def test_one_name_in_capitals_is_another_one(self):
        self.check_binding(expr(p_add(X, Var("X"))), add(ONE, TWO), {"x": ONE, "X": TWO})

    def test_wrong_forms(self):
        self.check_misfit(expr(p_neg(X)), ONE, (), None, "form")
        self.check_misfit(expr(p_neg(X)), PASS, (), None, "form")
        self.check_misfit(expr(p_add(p_neg(X), ONE)), add(ONE, TWO), (0,), None, "form")
        self.check_misfit(expr(p_add(X, p_neg(p_neg(Y)))), add(ONE, neg(TWO)), (1, 0), None, "form")
        self.check_misfit(expr(add(ONE, neg(TWO))), add(ONE, neg(neg(TWO))), (1, 0), None, "form")
        self.check_misfit(expr(p_call("f", X, p_neg(Y), R)), call("f", ONE, TWO), (1,), None, "form")

    def test_wrong_texts(self):
        self.check_misfit(expr(p_num("1")), TWO, (), "value", "text")
        self.check_misfit(expr(ONE), num("1 "), (), "value", "text")
        self.check_misfit(expr(p_call("f", R)), call("g", ONE), (), "what", "text")
        self.check_misfit(expr(p_add(X, p_num("1"))), add(ONE, TWO), (1,), "value", "text")
        self.check_misfit(expr(p_add(p_num(W), p_num(W))), add(ONE, TWO), (1,), "value", "equal")
        self.check_misfit(stmt(p_let(W, p_num(W), (R,), (Q,))), let("a", num("b")), (0,), "value", "equal")

    def test_wrong_nodes(self):
        self.check_misfit(expr(p_add(X, X)), add(ONE, TWO), (1,), None, "equal")
        self.check_misfit(expr(p_add(X, p_neg(X))), add(ONE, neg(TWO)), (1, 0), None, "equal")
        self.check_misfit(expr(p_call("f", X, Y, X)), call("f", ONE, TWO, TWO), (2,), None, "equal")
        self.check_misfit(expr(p_add(X, X)), add(call("f"), num("f")), (1,), None, "equal")
        self.check_misfit(expr(p_add(X, X)), add(num(" "), num("  ")), (1,), None, "equal")

    def test_wrong_lengths(self):
        self.check_misfit(expr(p_call("f")), call("f", ONE), (), "args", "length")
        self.check_misfit(expr(p_call("f", X)), call("f"), (), "args", "length")
        self.check_misfit(expr(p_call("f", X)), call("f", ONE, TWO), (), "args", "length")
        self.check_misfit(expr(p_call("f", X, Y, R)), call("f", ONE), (), "args", "length")
        self.check_misfit(expr(p_neg(p_call("f", X, R))), neg(call("f")), (0,), "args", "length")
        self.check_misfit(expr(call("f", ONE)), call("f"), (), "args", "length")

    def test_paths_count_the_children_before(self):
        root = p_let("a", X, (S, stmt(PASS).root), (p_neg(Y), p_num("3")))
        self.check_misfit(stmt(root), let("a", ONE, (PASS, PASS), (neg(TWO), ONE)), (4,), "value", "text")
        self.check_misfit(stmt(root), let("a", ONE, (PASS, PASS), (ONE, THREE)), (3,), None, "form")
        self.check_misfit(stmt(root), let("a", ONE, (PASS, let("b", ONE)), (neg(TWO), THREE)), (2,), None, "form")
        self.check_misfit(stmt(p_let(W, p_num(U), (p_let(U, X),), (R,))), let("a", ONE, (let("b", TWO),)), (1,), "word",
                          "equal")
        more = p_let("a", X, (Rest("m"),), (ONE, TWO))
        self.check_misfit(stmt(more), let("a", ONE, (PASS, PASS, PASS), (ONE, ONE)), (5,), "value", "text")

    def test_the_first_one_is_told(self):
        # The form of a node ahead of its parts, the parts in the order of the slots, each with all that is below it.
        self.check_misfit(expr(p_add(p_neg(p_num("1")), p_num("2"))), add(neg(TWO), ONE), (0, 0), "value", "text")
        self.check_misfit(expr(p_add(p_num(W), p_num(W))), add(ONE, neg(ONE)), (1,), None, "form")
        self.check_misfit(expr(p_call("f", X)), call("g"), (), "what", "text")
        # The length of a row ahead of its items, and these ahead of the rest.
        self.check_misfit(expr(p_call("f", ONE, TWO)), call("f", TWO), (), "args", "length")
        self.check_misfit(expr(p_call("f", ONE, R)), call("f", TWO, ONE), (0,), "value", "text")
        twice = p_add(p_call("f", R), p_call("f", ONE, R))
        self.check_misfit(expr(twice), add(call("f"), call("f", TWO, THREE)), (1, 0), "value", "text")
        # A row is done before the length of the next one is looked at.
        self.check_misfit(stmt(p_let("a", X, (p_let("a", X),), ())), let("a", ONE, (let("a", TWO),), (ONE,)),
                          (1, 0), None, "equal")
        self.check_misfit(stmt(p_let("a", X, (), (X,))), let("a", ONE, (PASS,), (TWO,)), (), "body", "length")
        # What a variable meets first it stands for.
        self.check_misfit(expr(p_add(p_add(X, Y), p_add(Y, X))), add(add(ONE, TWO), add(ONE, TWO)), (1, 0), None,
                          "equal")

    def test_the_binding_is_a_new_dict_each_time(self):
        pattern = expr(p_add(X, Y))
        binding = pattern(add(ONE, TWO))
        binding["x"] = None
        del binding["y"]
        self.assertEqual(pattern(add(ONE, TWO)), {"x": ONE, "y": TWO})

    def test_a_pattern_is_used_several_times(self):
        pattern = expr(p_add(X, X))
        for tree in (ONE, TWO, neg(ONE)):
            self.assertEqual(pattern(add(tree, tree)), {"x": tree})
            self.assertIsNone(pattern(add(tree, THREE)))

    def test_arguments_by_name(self):
        pattern = expr(p_neg(X))
        self.assertEqual(pattern(tree=neg(ONE)), {"x": ONE})
        self.assertEqual(mismatch(tree=ONE, pattern=pattern), ((), None, "form"))
        self.assertIsNone(check_tree(tree=ONE, schema=SCHEMA))

    def test_large_trees(self):
        wide = call("f", *[ONE] * 399)
        self.check_binding(expr(p_call(W, R)), wide, {"w": "f", "r": (ONE,) * 399})
        self.check_binding(expr(X), negs(100), {"x": negs(100)})
        self.check_binding(expr(p_neg(X)), negs(100), {"x": negs(99)})
        self.check_misfit(expr(negs(8)), negs(100), (0,) * 7, None, "form")
        self.check_binding(expr(p_call("f", *[X] * 59)), call("f", *[ONE] * 59), {"x": ONE})
        self.check_misfit(expr(p_call("f", *[X] * 59)), call("f", *[ONE] * 58, TWO), (58,), None, "equal")


class InTest(Case):

    def test_values_that_are_no_trees(self):
        for pattern in (expr(X), stmt(S), expr(p_num(W)), expr(ONE)):
            others = [("a Like", p_num("1")), ("a Like with a Var", p_neg(X)), ("a Var", X), ("a text", "Num"),
                      ("a row", (ONE,)), ("a list", [ONE])]
            for label, value in odd_arguments() + others + some_things():
                with self.subTest(label):
                    self.assertTrue((value in pattern) is False)

    def test_trees_of_other_schemas(self):
        for tree in (Tree("Sub"), Tree("Num"), Tree("Num", "1", "2"), neg(PASS), Tree("Neg", Tree("Sub")),
                     Tree("Num", ONE)):
            self.assertTrue((tree in expr(X)) is False)
            self.assertTrue((tree in expr(p_neg(X))) is False)

    def test_trees_of_equal_schemas(self):
        pattern = Pattern(make_schema(), p_neg(X))
        self.assertTrue((neg(ONE) in pattern) is True)
        self.assertTrue((ONE in pattern) is False)


class CheckTreeTest(Case):

    def check_wrong(self, path, tree):
        """Check the path of the first wrong node, with all that checks trees."""
        for call_it in (lambda: check_tree(SCHEMA, tree), lambda: mismatch(expr(X), tree), lambda: expr(X)(tree),
                        lambda: mismatch(stmt(PASS), tree), lambda: stmt(PASS)(tree)):
            self.check_raises(WrongTree, {}, call_it)
            try:
                call_it()
            except WrongTree as error:
                self.assertEqual(error.place, path)
                self.assertIs(type(error.place), tuple)

    def test_trees_of_the_schema(self):
        for tree in (ONE, PASS, add(ONE, neg(TWO)), call("f"), call("f", ONE, call("g")), Tree("raw_expr", "?"),
                     let("a", ONE, (PASS, let("b", TWO)), (ONE,)), neg(Tree("raw_expr", "")), Tree("raw_stmt", "x"),
                     negs(100), call("f", *[ONE] * 399)):
            self.assertIsNone(check_tree(SCHEMA, tree))
            self.assertIsNone(check_tree(make_schema(), tree))

    def test_unknown_forms(self):
        self.check_wrong((), Tree("Sub"))
        self.check_wrong((), Tree("num", "1"))
        self.check_wrong((), Tree("raw_text", "1"))
        self.check_wrong((), Tree("raw_Num", "1"))

    def test_an_unknown_form_has_no_sort(self):
        self.check_wrong((), neg(Tree("Sub")))
        self.check_wrong((0,), neg(neg(Tree("Sub"))))
        self.check_wrong((1,), add(ONE, neg(Tree("Sub"))))
        self.check_wrong((), call("f", ONE, call("g", Tree("Sub")), Tree("Sub")))

    def test_wrong_parts(self):
        for tree in (Tree("Num"), Tree("Num", "1", "2"), Tree("Num", ONE), Tree("Num", ()), Tree("Num", (ONE,)),
                     Tree("Neg", "1"), Tree("Neg", (ONE,)), Tree("Neg"), Tree("Neg", ONE, ONE), Tree("Call", "f"),
                     Tree("Call", "f", ONE), Tree("Call", (), "f"), Tree("Call", "f", (), ()), Tree("Pass", "x"),
                     Tree("raw_expr"), Tree("raw_expr", ONE), Tree("raw_expr", ()), Tree("raw_expr", "a", "b")):
            with self.subTest(tree.text):
                self.check_wrong((), tree)
        self.check_wrong((1,), add(ONE, Tree("Num")))
        self.check_wrong((0, 0), neg(neg(Tree("Num"))))

    def test_wrong_sorts_of_children(self):
        self.check_wrong((), neg(PASS))
        self.check_wrong((), call("f", ONE, PASS))
        self.check_wrong((), let("a", ONE, (PASS, ONE)))
        self.check_wrong((), let("a", PASS))
        self.check_wrong((), let("a", ONE, (), (ONE, PASS)))
        self.check_wrong((), neg(Tree("raw_stmt", "x")))
        self.check_wrong((2,), let("a", ONE, (PASS, let("a", PASS))))

    def test_the_first_path_is_told(self):
        wrong = Tree("Num")
        self.check_wrong((0,), add(wrong, wrong))
        self.check_wrong((0, 1), add(add(ONE, wrong), wrong))
        self.check_wrong((0, 0), add(neg(wrong), wrong))
        self.check_wrong((), add(neg(wrong), PASS))
        self.check_wrong((10,), call("f", *[ONE] * 10, wrong, wrong))
        self.check_wrong((2,), call("f", ONE, ONE, wrong, *[ONE] * 9, wrong))

    def test_schemas_without_a_form(self):
        schema = Schema(Form("Num", "expr", value="text"))
        self.assertIsNone(check_tree(schema, ONE))
        self.check_raises(WrongTree, {}, lambda: check_tree(schema, neg(ONE)))

    def test_a_tree_of_another_sort_is_checked_first(self):
        self.check_wrong((), let("a", ONE, (ONE,)))
        self.check_wrong((0,), let("a", Tree("Num")))


if __name__ == "__main__":
    unittest.main()
