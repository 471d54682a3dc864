"""Tests of the class Pattern in ruleengine.patterns: how patterns are made, and when they are equal."""

import unittest

from ruleengine.errors import InvalidPattern
from ruleengine.forms import Form, Schema
from ruleengine.patterns import Pattern
from ruleengine.trees import Like, Rest, Tree, Var, Word
from tests.helpers import Case, odd_arguments, odd_values
from tests.samples import (
    ONE, OTHER, PASS, Q, R, S, SCHEMA, TWO, U, W, X, Y, Z, add, call, expr, let, make_schema, negs, num, p_add, p_call,
    p_let, p_neg, p_num, some_things, stmt)

ALL_SORTS = p_let(W, p_call(W, X, Y, R), (S, p_let(U, X, (), (R,)), Rest("m")), (Y,))


class PatternTest(Case):

    def check_fault(self, fault, item, root, sort=None, schema=SCHEMA):
        """Check what is raised for a root, and that item is the very object."""
        self.check_raises(InvalidPattern, {"fault": fault, "item": item}, lambda: Pattern(schema, root, sort))

    def test_properties_of_a_like(self):
        root = p_add(X, p_num("1"))
        pattern = Pattern(SCHEMA, root)
        self.assertIs(pattern.schema, SCHEMA)
        self.assertIs(pattern.root, root)
        self.assertEqual((pattern.kin, pattern.variables, pattern.text), ("expr", ("x",), 'Add(x, Num("1"))'))

    def test_properties_of_a_var(self):
        pattern = Pattern(SCHEMA, S, "stmt")
        self.assertIs(pattern.root, S)
        self.assertEqual((pattern.kin, pattern.variables, pattern.text), ("stmt", ("s",), "s"))

    def test_properties_of_a_tree(self):
        root = add(ONE, TWO)
        for sort in (None, "expr"):
            pattern = Pattern(SCHEMA, root, sort)
            self.assertIs(pattern.root, root)
            self.assertEqual((pattern.kin, pattern.variables), ("expr", ()))
            self.assertEqual(pattern.text, 'Add(Num("1"), Num("2"))')

    def test_arguments_by_name(self):
        for pattern in (Pattern(sort="expr", root=X, schema=SCHEMA), Pattern(SCHEMA, sort="expr", root=X)):
            self.assertEqual((pattern.kin, pattern.text), ("expr", "x"))
        self.assertEqual(Pattern(root=p_neg(X), schema=SCHEMA).kin, "expr")

    def test_variables_in_the_order_in_which_they_occur(self):
        pattern = Pattern(SCHEMA, ALL_SORTS)
        self.assertEqual(pattern.text, "Let($w, Call($w, [x, y, *r]), [s, Let($u, x, [], [*r]), *m], [y])")
        self.assertIs(type(pattern.variables), tuple)
        self.assertEqual(pattern.variables, ("w", "x", "y", "r", "s", "u", "m"))
        self.assertEqual(expr(p_add(Y, p_add(X, Y))).variables, ("y", "x"))

    def test_takes(self):
        pattern = Pattern(SCHEMA, ALL_SORTS)
        taken = {"w": "text", "x": "expr", "y": "expr", "r": "expr*", "s": "stmt", "u": "text", "m": "stmt*"}
        for name, takes in taken.items():
            self.assertEqual(pattern.takes(name), takes)
            self.assertEqual(pattern.takes(name=name), takes)
        self.assertEqual(pattern.all_taken(), taken)
        self.assertEqual(Pattern(SCHEMA, ONE).all_taken(), {})

    def test_takes_of_other_values(self):
        pattern = Pattern(SCHEMA, ALL_SORTS)
        texts = [(text, text) for text in ("", "W", "$w", "*r", "z", "Let", "expr", "text")]
        for label, name in odd_arguments() + texts + some_things() + [("a Var", X)]:
            with self.subTest(label):
                self.assertIsNone(pattern.takes(name))

    def test_all_taken_is_a_new_dict_each_time(self):
        pattern = expr(p_add(X, Y))
        taken = pattern.all_taken()
        taken["x"] = "text"
        taken["z"] = "expr"
        del taken["y"]
        self.assertEqual(pattern.all_taken(), {"x": "expr", "y": "expr"})
        self.assertEqual((pattern.takes("x"), pattern.takes("y"), pattern.takes("z")), ("expr", "expr", None))
        self.assertIsNot(pattern.all_taken(), pattern.all_taken())

    def test_raw_forms(self):
        pattern = Pattern(SCHEMA, Like("raw_expr", W))
        self.assertEqual((pattern.kin, pattern.all_taken()), ("expr", {"w": "text"}))
        self.assertEqual(Pattern(SCHEMA, Tree("raw_stmt", "x"), "stmt").kin, "stmt")
        self.assertEqual(expr(p_neg(Like("raw_expr", "x"))).kin, "expr")
        self.check_fault("sort", "raw_stmt", p_neg(Like("raw_stmt", "x")))
        self.check_fault("form", "raw_text", Like("raw_text", "x"))

    def test_wrong_roots(self):
        others = some_things() + [("a row", (X,)), ("a row of trees", (ONE,)), ("a list", [ONE]), ("a text", "Num")]
        for label, root in odd_arguments() + others:
            with self.subTest(label):
                self.check_fault("root", None, root)
                self.check_fault("root", None, root, "expr")
                self.check_fault("root", None, root, "nothing")

    def test_wrong_sorts_of_a_var(self):
        texts = [(text, text) for text in ("", "text", "expr*", "Expr", "exprs", "raw_expr", "Num", "x" * 20000)]
        for label, sort in odd_arguments() + texts + some_things():
            with self.subTest(label):
                self.check_fault("sort", sort, X, sort)
        self.check_raises(InvalidPattern, {"fault": "sort", "item": None}, lambda: Pattern(SCHEMA, X))

    def test_wrong_sorts_of_nodes(self):
        texts = [(text, text) for text in ("", "text", "expr*", "stmt", "Num", "nothing")]
        for label, sort in odd_arguments() + texts + some_things():
            if sort is not None:
                with self.subTest(label):
                    self.check_fault("sort", sort, p_neg(X), sort)
                    self.check_fault("sort", sort, ONE, sort)
        self.check_fault("sort", "expr", PASS, "expr")

    def test_unknown_form_of_the_root(self):
        for kind in (Like, Tree):
            root = kind("Sub", ONE)
            self.check_fault("form", root.form, root)
            self.check_fault("form", root.form, root, "nothing")

    def test_size(self):
        self.assertEqual(expr(call("f", *[ONE] * 59)).kin, "expr")
        self.assertEqual(expr(p_call("f", *[ONE] * 59)).kin, "expr")
        self.assertEqual(expr(p_call("f", *[X] * 59)).variables, ("x",))
        self.check_fault("size", None, call("f", *[ONE] * 60))
        self.check_fault("size", None, call("f", *[ONE] * 399))

    def test_levels(self):
        self.assertEqual(expr(negs(8)).text.count("Neg"), 7)
        self.assertEqual(expr(negs(8, X)).variables, ("x",))
        self.check_fault("size", None, negs(9))
        self.check_fault("size", None, negs(100))

    def test_unknown_forms_below(self):
        for wrong in (Like("Sub"), Tree("Sub"), Like("num", "1"), Tree("Sub", "1")):
            for root in (p_neg(wrong), p_add(X, wrong), p_call("f", X, wrong, R), p_let("a", ONE, (), (wrong,)),
                         p_add(p_neg(X), p_neg(wrong))):
                self.check_fault("form", wrong.form, root)
        self.check_fault("form", "Sub", add(ONE, Tree("Sub")))

    def test_wrong_sorts_below(self):
        for root in (p_neg(PASS), p_add(X, PASS), p_call("f", X, PASS), p_let("a", PASS), p_let("a", X, (), (PASS,)),
                     add(ONE, PASS)):
            self.check_fault("sort", "Pass", root)
        self.check_fault("sort", "Num", p_let("a", X, (S, p_num(W))))
        self.check_fault("sort", "Num", let("a", ONE, (ONE,)))

    def test_wrong_parts(self):
        for form, parts in (("Num", ()), ("Num", ("a", "b")), ("Num", (X,)), ("Num", ((),)), ("Num", (ONE,)),
                            ("Num", ((R,),)), ("Neg", ()), ("Neg", ("a",)), ("Neg", (W,)), ("Neg", ((X,),)),
                            ("Neg", (X, Y)), ("Call", ("f", X)), ("Call", ("f", "g")), ("Call", ("f", W)),
                            ("Call", ((), "f")), ("Call", (X, ())), ("Call", ("f",)), ("Call", ("f", (), ()))):
            root = Like(form, *parts)
            with self.subTest(root.text):
                self.check_fault("parts", root.form, root)
                self.check_fault("parts", root.form, p_add(X, root))
                self.check_fault("parts", root.form, p_call("f", X, root, R))
        self.check_fault("parts", "Pass", Tree("Pass", "x"))
        self.check_fault("parts", "Num", add(ONE, Tree("Num", ONE)))

    def test_names_that_stand_for_something_else(self):
        for root, name in (
                (p_call(Word("x"), X), "x"), (p_call(W, X, Rest("x")), "x"), (p_call(W, X, Rest("w")), "w"),
                (p_let(W, Var("w")), "w"), (p_let("a", X, (Var("x"),)), "x"), (p_let("a", X, (R,), (R,)), "r"),
                (p_let("a", X, (Var("r"), R)), "r"), (p_add(p_num(W), p_add(X, Var("w"))), "w"),
                (p_add(X, p_num(Word("x"))), "x"), (p_let("a", X, (Rest("x"),)), "x")):
            with self.subTest(root.text):
                self.check_fault("name", name, root)

    def test_the_name_is_the_very_object(self):
        name = "".join(["n", "ame"])
        variable = Word(name)
        try:
            Pattern(SCHEMA, p_add(Var("name"), p_num(variable)))
        except InvalidPattern as error:
            self.assertIs(error.item, variable.name)

    def test_the_first_fault_is_told(self):
        cases = [
            # Those of the whole root, in the listed order.
            (Like("Sub", *[X] * 59), "nothing", "form", "Sub"), (Tree("Sub", *[ONE] * 60), None, "form", "Sub"),
            (call("f", *[ONE] * 60), "stmt", "sort", "stmt"), (call("f", *[Tree("Sub")] * 60), None, "size", None),
            (negs(9, Tree("Sub")), None, "size", None), (negs(9, PASS), None, "size", None),
            (Tree("Num", *[ONE] * 60), None, "size", None), (p_call(Word("x"), X), "stmt", "sort", "stmt"),
            # Each node ahead of its parts, and the parts in their order.
            (Like("Neg", Tree("Sub"), X), None, "parts", "Neg"), (Like("Add", PASS), None, "parts", "Add"),
            (Like("Call", p_neg(PASS), ()), None, "parts", "Call"),
            (p_add(p_neg(PASS), Like("Sub")), None, "sort", "Pass"),
            (p_add(Like("Neg", "a"), PASS), None, "parts", "Neg"), (p_add(Tree("Sub"), PASS), None, "form", "Sub"),
            (p_add(PASS, Tree("Sub")), None, "sort", "Pass"),
            (p_add(p_num(Word("x")), p_add(X, PASS)), None, "name", "x"),
            (p_add(p_num(Word("x")), p_add(PASS, X)), None, "sort", "Pass"),
            (p_neg(Like("Sub", X, X)), None, "form", "Sub"),
            (p_neg(Like("Pass", X)), None, "sort", "Pass"),
            (p_call("f", X, p_neg(PASS), Rest("x")), None, "sort", "Pass"),
            (p_call(Word("x"), X, p_neg(PASS)), None, "name", "x"),
            (p_call("f", p_neg(PASS), Like("Sub")), None, "sort", "Pass"),
            (p_add(p_call(W, X, R), p_call(X.name, Var("w"), Var("r"))), None, "name", "w"),
            (p_let(W, p_call("f", R), (R,), (Var("w"),)), None, "name", "r"),
        ]
        for root, sort, fault, item in cases:
            with self.subTest(root.text[:60]):
                self.check_fault(fault, item, root, sort)

    def test_a_like_without_variables_stands_for_the_tree_with_its_text(self):
        like, tree = Pattern(SCHEMA, p_add(p_num("1"), p_num("2"))), Pattern(SCHEMA, add(ONE, TWO))
        self.check_equal(like, tree)
        self.assertEqual((like.text, like.kin, like.variables), (tree.text, tree.kin, tree.variables))
        self.assertTrue(like <= tree and tree <= like)
        self.assertEqual(like(add(ONE, TWO)), {})
        self.assertIn(add(ONE, TWO), like)
        self.check_equal(expr(p_add(X, p_num("1"))), expr(p_add(X, ONE)))

    def test_equality(self):
        self.check_equal(expr(p_add(X, Y)), expr(p_add(Y, X)))
        self.check_equal(expr(p_add(X, X)), expr(p_add(Z, Z)))
        self.check_equal(expr(X), expr(Z))
        self.check_equal(expr(p_call(W, X, R)), expr(p_call(Word("x"), Var("r"), Rest("w"))))
        self.check_equal(expr(p_call("f", R)), expr(p_call("f", Q)))
        self.check_equal(Pattern(make_schema(), p_neg(X)), expr(p_neg(X)))
        self.check_equal(Pattern(SCHEMA, ALL_SORTS), Pattern(make_schema(), ALL_SORTS))
        # The names x1, x2 are names like others.
        self.check_equal(expr(p_add(Var("x2"), Var("x1"))), expr(p_add(Var("x1"), Var("x2"))))

    def test_inequality(self):
        patterns = [
            expr(X), stmt(S), expr(p_add(X, Y)), expr(p_add(X, X)), expr(p_add(X, ONE)), expr(p_add(ONE, X)),
            expr(p_add(X, p_num("x"))), expr(p_add(X, p_num(W))), expr(ONE), expr(TWO), expr(num("x1")), expr(p_num(W)),
            expr(p_call(W)), expr(p_call(W, X)), expr(p_call(W, R)), expr(p_call(W, X, R)), expr(p_call("x1", X, R)),
            expr(p_call(W, X, Y)), expr(p_call(W, X, X)), expr(p_call("$x1", X, R)), expr(Like("raw_expr", W)),
            expr(p_add(p_call("f", R), p_call("f", R))), expr(p_add(p_call("f", R), p_call("f", Q))),
            stmt(p_let(W, X, (R,))), stmt(p_let(W, X, (), (R,))), stmt(p_let(W, X, (R,), (Q,))),
        ]
        for number, one in enumerate(patterns):
            for other in patterns[:number]:
                self.check_unequal(one, other)

    def test_patterns_of_other_schemas_are_not_equal(self):
        more = Schema(*SCHEMA.forms, Form("Sub", "expr"))
        turned = Schema(*SCHEMA.forms[::-1])
        for schema in (OTHER, more, turned):
            self.check_unequal(Pattern(schema, p_num(W)), Pattern(SCHEMA, p_num(W)))
            self.check_unequal(Pattern(schema, X, "expr"), Pattern(SCHEMA, X, "expr"))

    def test_a_pattern_is_no_other_value(self):
        pattern = expr(p_neg(X))
        others = [("its root", pattern.root), ("its text", "Neg(x)"), ("a tree", ONE), ("a schema", SCHEMA)]
        for label, value in odd_values() + others:
            with self.subTest(label):
                self.check_unequal(pattern, value)

    def test_operators_with_other_values(self):
        pattern = expr(p_neg(X))
        for label, value in odd_arguments() + [("its root", pattern.root), ("a tree", ONE), ("a schema", SCHEMA)]:
            with self.subTest(label):
                for call_it in (lambda: pattern <= value, lambda: pattern < value, lambda: pattern & value,
                                lambda: pattern | value, lambda: value <= pattern, lambda: value < pattern,
                                lambda: value & pattern, lambda: value | pattern, lambda: pattern >= value,
                                lambda: pattern > value):
                    with self.assertRaises(TypeError):
                        call_it()

    def test_other_operators(self):
        pattern = expr(p_neg(X))
        for call_it in (lambda: pattern + pattern, lambda: -pattern, lambda: pattern ^ pattern, lambda: pattern[0],
                        lambda: list(pattern), lambda: len(pattern)):
            with self.assertRaises(TypeError):
                call_it()


if __name__ == "__main__":
    unittest.main()
