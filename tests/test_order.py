"""Tests of the order of patterns in ruleengine.patterns: <=, <, covers and check_cover."""

import unittest

from ruleengine.errors import InvalidAnswer, OtherSchema
from ruleengine.forms import Form, Schema
from ruleengine.patterns import Pattern, check_cover, check_tree, covers
from ruleengine.trees import Like, Rest, Tree, Var, Word
from tests.helpers import Case, nested, odd_arguments, repeated
from tests.samples import (
    ONE, OTHER, PASS, Q, R, S, SCHEMA, THREE, TWO, U, W, X, Y, Z, add, call, expr, let, make_schema, neg, negs, num,
    p_add, p_call, p_let, p_neg, p_num, some_things, stmt)

RAW = Like("raw_expr", W)
# A pattern, another one of which it is an instance, and the replacement.
INSTANCES = [
    (expr(ONE), expr(X), {"x": ONE}),
    (expr(p_neg(Y)), expr(X), {"x": p_neg(Y)}),
    (expr(p_add(X, X)), expr(p_add(X, Y)), {"x": X, "y": X}),
    (expr(p_add(Y, X)), expr(p_add(X, Y)), {"x": Y, "y": X}),
    (expr(p_add(p_neg(Z), p_neg(Z))), expr(p_add(X, X)), {"x": p_neg(Z)}),
    (expr(p_num("a")), expr(p_num(W)), {"w": "a"}),
    (expr(p_num(U)), expr(p_num(W)), {"w": U}),
    (expr(p_add(p_num(U), p_num(U))), expr(p_add(p_num(W), p_num(U))), {"w": U, "u": U}),
    (expr(p_call("f")), expr(p_call("f", R)), {"r": ()}),
    (expr(p_call("f", ONE, X)), expr(p_call("f", R)), {"r": (ONE, X)}),
    (expr(p_call("f", ONE, Q)), expr(p_call(W, X, R)), {"w": "f", "x": ONE, "r": (Q,)}),
    (expr(p_call("f", ONE, TWO, Q)), expr(p_call("f", X, R)), {"x": ONE, "r": (TWO, Q)}),
    (expr(p_call("f", X)), expr(p_call("f", X, R)), {"x": X, "r": ()}),
    (expr(p_add(p_call("f", X, Q), p_call("g", X, Q))), expr(p_add(p_call("f", R), p_call("g", R))), {"r": (X, Q)}),
    (stmt(S), stmt(Var("t")), {"t": S}),
    (stmt(PASS), stmt(S), {"s": PASS}),
    (expr(ONE), expr(p_num("1")), {}),
    (expr(RAW), expr(X), {"x": RAW}),
    (stmt(p_let(W, X, (PASS,), (X, R))), stmt(p_let(U, Y, (S, Rest("m")), (Z, Rest("n")))),
     {"u": W, "y": X, "s": PASS, "m": (), "z": X, "n": (R,)}),
]
# A pattern that is no instance of another one.
OTHERS = [
    (expr(X), expr(ONE)), (expr(X), expr(p_neg(Y))), (expr(X), expr(RAW)), (expr(p_add(X, Y)), expr(p_add(X, X))),
    (expr(p_add(X, ONE)), expr(p_add(X, X))), (expr(p_num(W)), expr(p_num("w"))), (expr(ONE), expr(TWO)),
    (expr(p_add(p_num(W), p_num(U))), expr(p_add(p_num(W), p_num(W)))), (expr(p_num("a")), expr(RAW)),
    (expr(p_call("f", R)), expr(p_call("f"))), (expr(p_call("f", R)), expr(p_call("f", X, R))),
    (expr(p_call("f", X, R)), expr(p_call("f", X))), (expr(p_call("f", X, R)), expr(p_call("f", X, Y, R))),
    (expr(p_call("f")), expr(p_call("f", X, R))), (expr(p_call("f", X, Y)), expr(p_call("f", X))),
    (expr(p_add(p_call("f", R), p_call("f", Q))), expr(p_add(p_call("f", R), p_call("f", R)))),
    (expr(p_add(p_call("f", R), p_call("f"))), expr(p_add(p_call("f", R), p_call("f", R)))),
    (expr(p_add(X, RAW)), expr(p_add(X, X))), (expr(p_add(X, Y)), expr(p_add(RAW, Y))),
    (expr(p_call("f", X, Y, R)), expr(p_call("f", X, RAW, R))), (expr(p_neg(X)), expr(p_neg(p_neg(X)))),
    (stmt(p_let(W, X, (R,), (Q,))), stmt(p_let(W, X, (R,), ()))), (stmt(S), stmt(Like("raw_stmt", W))),
    (stmt(p_let(W, ONE, (Rest("m"), ), (X,))), stmt(p_let(U, ONE, (R,), (RAW,)))),
    (stmt(p_let(W, p_num(W), (S, Rest("m")), (X, Q))), stmt(p_let(U, p_num(U), (S, R), (RAW, Q)))),
]


def part_text(value):
    """A text for what a variable is replaced by."""
    if isinstance(value, tuple):
        return [part_text(item) for item in value]
    return value if isinstance(value, str) else "a node " + value.text


def texts(replacement):
    return {name: part_text(value) for name, value in replacement.items()}


class OrderTest(Case):

    def check_order(self, one, other, is_instance, is_equal):
        self.assertTrue((one <= other) is is_instance)
        self.assertTrue((other >= one) is is_instance)
        self.assertTrue((one < other) is (is_instance and not is_equal))
        self.assertTrue((other > one) is (is_instance and not is_equal))

    def test_instances(self):
        for one, other, _ in INSTANCES:
            with self.subTest(one.text + " <= " + other.text):
                self.check_order(one, other, True, one == other)
                self.check_order(other, one, one == other, one == other)

    def test_others(self):
        for one, other in OTHERS:
            with self.subTest(one.text + " <= " + other.text):
                self.check_order(one, other, False, False)

    def test_equal_patterns(self):
        for one, _, _ in INSTANCES:
            self.check_order(one, one, True, True)
        self.check_order(expr(p_add(X, Y)), expr(p_add(Y, Z)), True, True)
        self.check_order(expr(p_call(W, R)), expr(p_call(U, Q)), True, True)
        self.check_order(expr(add(ONE, TWO)), expr(p_add(p_num("1"), TWO)), True, True)

    def test_equal_schemas(self):
        one = Pattern(make_schema(), p_neg(ONE))
        self.check_order(one, expr(p_neg(X)), True, False)
        self.check_order(expr(p_neg(X)), one, False, False)

    def test_large_patterns(self):
        names = [Var("v" + str(number)) for number in range(59)]
        one, other = expr(p_call("f", *names)), expr(p_call("f", *names[:58], names[0]))
        self.check_order(other, one, True, False)
        self.check_order(one, other, False, False)
        self.check_order(expr(negs(8)), expr(negs(8, X)), True, False)
        self.check_order(expr(negs(7, X)), expr(negs(8, X)), False, False)

    def test_other_schemas(self):
        one = expr(p_num(W))
        for other in (Pattern(OTHER, p_num(W)), Pattern(OTHER, X, "expr"), stmt(S), stmt(PASS),
                      Pattern(Schema(*SCHEMA.forms[::-1]), X, "expr")):
            for call_it in (lambda: one <= other, lambda: one < other, lambda: other <= one, lambda: other < one,
                            lambda: one >= other, lambda: one > other, lambda: covers(one, other),
                            lambda: covers(other, one), lambda: check_cover(one, other, ("instance", {})),
                            lambda: check_cover(one, other, None), lambda: check_cover(other, one, repeated(list))):
                self.check_raises(OtherSchema, {}, call_it)


class CoversTest(Case):

    def test_replacements(self):
        for one, other, wanted in INSTANCES:
            with self.subTest(one.text + " <= " + other.text):
                word, replacement = covers(one, other)
                self.assertEqual((word, texts(replacement)), ("instance", texts(wanted)))
                self.assertEqual(check_cover(one, other, (word, replacement)), "instance")
                self.assertEqual(check_cover(one, other, (word, wanted)), "instance")

    def test_trees(self):
        for one, other in OTHERS:
            with self.subTest(one.text + " <= " + other.text):
                word, tree = covers(one, other)
                self.assertEqual((word, type(tree)), ("tree", Tree))
                self.assertIsNone(check_tree(SCHEMA, tree))
                self.assertIn(tree, one)
                self.assertNotIn(tree, other)
                self.assertEqual(check_cover(one, other, (word, tree)), "tree")

    def test_both_ways(self):
        for one, other, _ in INSTANCES:
            if one != other:
                with self.subTest(other.text + " <= " + one.text):
                    word, tree = covers(other, one)
                    self.assertEqual(word, "tree")
                    self.assertTrue(tree in other and tree not in one)

    def test_all_values_are_of_their_kinds(self):
        word, replacement = covers(stmt(p_let(U, p_neg(X), (PASS, Rest("m")))), stmt(p_let(W, Y, (Rest("b"),), (R,))))
        self.assertEqual(word, "instance")
        self.assertEqual(set(replacement), {"w", "y", "b", "r"})
        self.assertEqual((replacement["w"], replacement["y"].text, replacement["r"]), (U, "Neg(x)", ()))
        self.assertEqual((type(replacement["b"]), replacement["b"][0], replacement["b"][1]), (tuple, PASS, Rest("m")))

    def test_fresh_texts_differ_from_those_of_both_patterns(self):
        texts_used = [str(number) for number in range(40)] + ["t" + str(number) for number in range(18)]
        one = expr(p_call("f", *[num(text) for text in texts_used[:50]], p_num(W), R))
        for text in texts_used:
            other = expr(p_call("f", *[Var("v" + str(number)) for number in range(50)], p_num(text), R))
            word, tree = covers(one, other)
            self.assertEqual(word, "tree")
            self.assertTrue(tree in one and tree not in other)

    def test_every_var_can_be_the_one_that_counts(self):
        names = [Var("v" + str(number)) for number in range(29)]
        one = expr(p_call("f", *names))
        for number in range(29):
            row = names[:number] + [RAW] + names[number + 1:]
            word, tree = covers(one, expr(p_call("f", *row)))
            self.assertEqual(word, "tree")
            self.assertTrue(tree in one and tree not in expr(p_call("f", *row)))

    def test_trees_are_not_too_large(self):
        schema = Schema(Form("Five", "e", a="e", b="e", c="e", d="e", e="e"), Form("Row", "e", items="e*"))
        raw = Like("raw_e", W)
        one = Pattern(schema, Like("Row", (X,) * 59))
        word, tree = covers(one, Pattern(schema, Like("Row", (raw,) * 59)))
        self.assertEqual(word, "tree")
        self.assertIn(tree, one)
        chain, other = X, raw
        for _ in range(7):
            chain, other = Like("Row", (chain,)), Like("Row", (other,))
        word, tree = covers(Pattern(schema, chain), Pattern(schema, other))
        self.assertTrue(tree in Pattern(schema, chain) and tree not in Pattern(schema, other))

    def test_the_replacement_is_a_new_dict_each_time(self):
        one, other = expr(p_neg(ONE)), expr(p_neg(X))
        replacement = covers(one, other)[1]
        replacement["x"] = TWO
        replacement["y"] = TWO
        self.assertEqual(texts(covers(one, other)[1]), {"x": 'a node Num("1")'})

    def test_arguments_by_name(self):
        one, other = expr(ONE), expr(X)
        self.assertEqual(covers(other=other, one=one)[0], "instance")
        self.assertEqual(check_cover(answer=("instance", {"x": ONE}), other=other, one=one), "instance")


class CheckCoverTest(Case):

    def check_wrong(self, part, one, other, answer):
        self.check_raises(InvalidAnswer, {"part": part}, lambda: check_cover(one, other, answer))

    def test_wrong_forms(self):
        for one, other in ((expr(ONE), expr(X)), (expr(X), expr(ONE))):
            answers = odd_arguments() + some_things() + [
                ("a list", ["instance", {"x": ONE}]), ("a text", "instance"), ("alone", ("instance",)),
                ("three", ("tree", TWO, None)), ("another word", ("trees", TWO)), ("capitals", ("Tree", TWO)),
                ("a list of a word", (["tree"], TWO)), ("turned", (TWO, "tree")), ("nothing", ()),
                ("True", (True, TWO)), ("long", (repeated(tuple), repeated(tuple))), ("None", (None, TWO)),
                ("a tuple of a word", (("tree",), TWO)), ("bytes", (b"tree", TWO)), ("a tree", TWO)]
            for label, answer in answers:
                with self.subTest(label):
                    self.check_wrong("form", one, other, answer)

    def test_wrong_replacements(self):
        one = expr(p_add(p_call(U, X, Q), p_num("a")))
        other = expr(p_add(p_call(W, Y, R), p_num(Word("t"))))
        right = {"w": U, "y": X, "r": (Q,), "t": "a"}
        self.assertEqual(check_cover(one, other, ("instance", right)), "instance")
        values = odd_arguments() + [
            ("a Var", Var("z")), ("a Word", Word("z")), ("a Rest", R), ("another case", Var("X")), ("a tree", ONE),
            ("a text", "b"), ("its text", "u"), ("a text of a Word", "$u"), ("a text of a node", "x"),
            ("a row", (ONE,)), ("the Rest alone", Q), ("a list", [Q]), ("another Rest", (R,)), ("two", (X, Q)),
            ("empty", ()), ("a Like", p_neg(X)), ("a Word of the name of a Var", Word("x")), ("a Rest x", Rest("x")),
            ("a Var of the name of a Word", Var("u")), ("the Rest twice", (Q, Q)), ("a Word in a row", (Word("q"),)),
            ("a Var in a row", (Var("q"),)), ("a row in a row", ((Q,),)), ("a tuple of a text", ("a",))]
        for name in right:
            for label, value in values:
                with self.subTest(name + " " + label):
                    self.check_wrong("instance", one, other, ("instance", {**right, name: value}))
            less = {key: value for key, value in right.items() if key != name}
            self.check_wrong("instance", one, other, ("instance", less))
            self.check_wrong("instance", one, other, ("instance", {**less, name.upper(): right[name]}))
        self.check_wrong("instance", one, other, ("instance", {**right, "z": X}))
        self.check_wrong("instance", one, other, ("instance", {**right, None: X}))
        for label, value in odd_arguments() + [("a list of pairs", list(right.items())), ("the names", tuple(right))]:
            with self.subTest(label):
                self.check_wrong("instance", one, other, ("instance", value))

    def test_a_like_without_variables_stands_for_a_tree(self):
        one, other = expr(p_add(p_neg(ONE), X)), expr(p_add(Y, X))
        for value in (p_neg(ONE), neg(ONE), p_neg(p_num("1")), Like("Neg", Like("Num", "1"))):
            self.assertEqual(check_cover(one, other, ("instance", {"x": X, "y": value})), "instance")
        rows = expr(p_call("f", R))
        for value in ((ONE,), (p_num("1"),)):
            self.assertEqual(check_cover(expr(p_call("f", ONE)), rows, ("instance", {"r": value})), "instance")

    def test_there_is_no_replacement(self):
        for one, other in OTHERS:
            for answer in ({}, {"x": X}, {"x": ONE}, {name: X for name in other.variables}):
                self.check_wrong("instance", one, other, ("instance", answer))

    def test_wrong_trees(self):
        one, other = expr(p_add(X, Y)), expr(p_add(X, X))
        for tree in (add(ONE, TWO), add(ONE, neg(ONE)), add(num("a"), Tree("raw_expr", "a"))):
            self.assertEqual(check_cover(one, other, ("tree", tree)), "tree")
        values = odd_arguments() + some_things() + [
            ("it fits both", add(ONE, ONE)), ("it fits none", neg(ONE)), ("a Like", p_add(ONE, TWO)),
            ("another sort", PASS), ("not of the schema", add(ONE, Tree("Sub"))), ("a Var", X),
            ("not of the schema as a whole", Tree("Add", ONE, TWO, THREE)), ("its text", add(ONE, TWO).text),
            ("a row", (add(ONE, TWO),)), ("a wrong child", add(ONE, PASS))]
        for label, value in values:
            with self.subTest(label):
                self.check_wrong("tree", one, other, ("tree", value))

    def test_there_is_no_tree(self):
        for one, other, _ in INSTANCES:
            for tree in (ONE, add(ONE, TWO), call("f", ONE), PASS, let("a", ONE)):
                self.check_wrong("tree", one, other, ("tree", tree))

    def test_deep_and_long_values(self):
        one, other = expr(p_call("f", ONE, TWO)), expr(p_call("f", R))
        for kind in (list, tuple, dict):
            for value in (nested(kind), repeated(kind)):
                self.check_wrong("instance", one, other, ("instance", {"r": value}))
                self.check_wrong("instance", one, other, ("instance", {"r": (value, value)}))
                self.check_wrong("instance", one, other, ("instance", value))
                self.check_wrong("tree", one, other, ("tree", value))
                self.check_wrong("form", one, other, (value, value))

    def test_answers_are_not_changed(self):
        one, other = expr(p_call("f", ONE)), expr(p_call("f", R))
        replacement = {"r": (ONE,)}
        check_cover(one, other, ("instance", replacement))
        self.assertEqual(replacement, {"r": (ONE,)})


if __name__ == "__main__":
    unittest.main()
