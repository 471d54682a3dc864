"""Tests of & and | of patterns, do_meet and learned in ruleengine.patterns."""

import unittest

from ruleengine.errors import NoCommon, OtherSchema, TooLarge, WrongTree
from ruleengine.forms import Form, Schema
from ruleengine.patterns import Pattern, do_meet, learned
from ruleengine.trees import Like, Rest, Tree, Var
from tests.helpers import Case
from tests.samples import (
    ONE, OTHER, PASS, Q, R, S, SCHEMA, THREE, TWO, U, W, X, Y, Z, add, call, expr, let, make_schema, neg, negs, num,
    p_add, p_call, p_let, p_neg, p_num, stmt)

# Two patterns, and the text of their greatest common instance.
COMMON = [
    (expr(X), expr(Y), "x1"),
    (expr(X), expr(ONE), 'Num("1")'),
    (expr(p_add(X, Y)), expr(p_add(Y, X)), "Add(x1, x2)"),
    (expr(p_add(X, X)), expr(p_add(X, Y)), "Add(x1, x1)"),
    (expr(p_add(X, X)), expr(p_add(ONE, Y)), 'Add(Num("1"), Num("1"))'),
    (expr(p_add(X, p_neg(Y))), expr(p_add(p_neg(X), Y)), "Add(Neg(x1), Neg(x2))"),
    (expr(p_add(X, p_neg(Y))), expr(p_add(X, X)), "Add(Neg(x1), Neg(x1))"),
    (expr(p_add(p_neg(X), p_neg(Y))), expr(p_add(X, X)), "Add(Neg(x1), Neg(x1))"),
    (expr(p_add(p_add(X, Y), p_add(Y, X))), expr(p_add(Z, Z)), "Add(Add(x1, x1), Add(x1, x1))"),
    (expr(p_num(W)), expr(p_num("a")), 'Num("a")'),
    (expr(p_num(W)), expr(p_num(U)), "Num($x1)"),
    (expr(p_add(p_num(W), p_num(W))), expr(p_add(p_num(U), p_num(W))), "Add(Num($x1), Num($x1))"),
    (expr(p_add(p_num(W), p_call(W, R))), expr(p_add(p_num("f"), X)), 'Add(Num("f"), Call("f", [*x1]))'),
    (expr(p_call("f", R)), expr(p_call("f")), 'Call("f", [])'),
    (expr(p_call(W, R)), expr(p_call("f", X, Y)), 'Call("f", [x1, x2])'),
    (expr(p_call("f", X, R)), expr(p_call("f", ONE, TWO, Q)), 'Call("f", [Num("1"), Num("2"), *x1])'),
    (expr(p_call("f", R)), expr(p_call("f", R)), 'Call("f", [*x1])'),
    (expr(p_call("f", X, R)), expr(p_call("f", R)), 'Call("f", [x1, *x2])'),
    (expr(p_add(p_call("f", R), p_call("g", R))), expr(p_add(p_call("f", X, Y), p_call("g", ONE, Q))),
     'Add(Call("f", [Num("1"), x1]), Call("g", [Num("1"), x1]))'),
    (expr(p_add(p_call("f", X, R), p_call("g", R))), expr(p_add(p_call("f", Q), p_call("g", TWO))),
     'Add(Call("f", [x1, Num("2")]), Call("g", [Num("2")]))'),
    (expr(Like("raw_expr", W)), expr(X), "raw_expr($x1)"),
    (stmt(p_let(W, p_num(W), (Rest("m"),), (R,))), stmt(p_let("a", X, (S,), (X, Y))),
     'Let("a", Num("a"), [x1], [Num("a"), x2])'),
    (stmt(p_let(U, Y, (Rest("m"),), (Y, R))), stmt(p_let(W, X, (S, PASS), (ONE,))),
     'Let($x1, Num("1"), [x2, Pass()], [Num("1")])'),
    (expr(add(ONE, TWO)), expr(p_add(p_num("1"), p_num("2"))), 'Add(Num("1"), Num("2"))'),
]
CLASHES = [
    (expr(ONE), expr(TWO)), (expr(p_neg(X)), expr(p_num(W))), (expr(p_num("a")), expr(p_num("b"))),
    (expr(p_add(X, X)), expr(p_add(ONE, TWO))), (expr(p_add(X, X)), expr(p_add(p_neg(Y), p_num(W)))),
    (expr(p_add(p_num(W), p_num(W))), expr(p_add(ONE, TWO))), (expr(p_call("f")), expr(p_call("f", X))),
    (expr(p_call("f", X, Y, R)), expr(p_call("f", X))), (expr(p_call("f", R)), expr(p_call("g", R))),
    (expr(p_add(p_call("f", R), p_call("g", R))), expr(p_add(p_call("f"), p_call("g", X)))),
    (expr(p_add(p_call("f", R), p_call("g", R))), expr(p_add(p_call("f", ONE), p_call("g", TWO)))),
    (expr(Like("raw_expr", W)), expr(p_num(W))), (stmt(PASS), stmt(p_let(W, X, (R,), (Q,)))),
    (expr(p_add(p_add(X, Y), X)), expr(p_add(p_add(ONE, TWO), TWO))),
]
RINGS = [
    (expr(p_add(X, X)), expr(p_add(Y, p_neg(Y)))),
    (expr(p_add(X, p_neg(X))), expr(p_add(Y, Y))),
    (expr(p_add(p_add(X, Y), p_add(Y, X))), expr(p_add(p_add(X, p_neg(X)), p_add(Y, Y)))),
    (expr(p_add(p_call("f", R), p_call("f", R))), expr(p_add(p_call("f", Q), p_call("f", X, Q)))),
    (expr(p_add(X, X)), expr(p_add(p_call("f", R), p_call("f", p_call("f", R), Q)))),
    (expr(p_call("f", X, Y, X)), expr(p_call("f", p_neg(Y), p_neg(X), Y))),
]
# Roots and the text of their least common generalization.
GENERAL = [
    ([ONE, ONE], 'Num("1")'),
    ([ONE, TWO], "Num($x1)"),
    ([ONE, neg(ONE)], "x1"),
    ([X, Y], "x1"),
    ([X, ONE], "x1"),
    ([add(ONE, TWO), add(TWO, TWO)], 'Add(Num($x1), Num("2"))'),
    ([add(ONE, TWO), add(TWO, ONE)], "Add(Num($x1), Num($x2))"),
    ([add(ONE, ONE), add(TWO, TWO)], "Add(Num($x1), Num($x1))"),
    ([add(ONE, neg(ONE)), add(neg(TWO), neg(neg(TWO)))], "Add(x1, Neg(x1))"),
    ([p_add(X, X), p_add(Y, Z)], "Add(x1, x2)"),
    ([p_add(X, Y), p_add(Y, Y)], "Add(x1, x2)"),
    ([p_add(X, p_neg(X)), p_add(Y, p_neg(Y))], "Add(x1, Neg(x1))"),
    ([p_num(W), ONE], "Num($x1)"),
    ([p_add(p_num(W), p_num(W)), p_add(ONE, ONE)], "Add(Num($x1), Num($x1))"),
    ([p_add(p_num("w"), p_num(W)), p_add(p_num("1"), p_num("1"))], "Add(Num($x1), Num($x2))"),
    ([call("f"), call("f", ONE)], 'Call("f", [*x1])'),
    ([call("f", ONE), call("g", ONE, TWO)], 'Call($x1, [Num("1"), *x2])'),
    ([call("f", ONE, TWO), call("f", TWO, ONE)], 'Call("f", [Num($x1), Num($x2)])'),
    ([p_call("f", X, R), p_call("f", ONE)], 'Call("f", [x1, *x2])'),
    ([p_call("f", R), p_call("f", R)], 'Call("f", [*x1])'),
    ([p_call("f", R), p_call("f")], 'Call("f", [*x1])'),
    ([add(call("f", ONE), call("f", ONE)), add(call("f"), call("f"))], 'Add(Call("f", [*x1]), Call("f", [*x1]))'),
    ([add(call("f", ONE), call("f", TWO)), add(call("f"), call("f"))], 'Add(Call("f", [*x1]), Call("f", [*x2]))'),
    ([add(call("f", ONE, TWO), call("f", TWO)), add(call("f", ONE), call("f"))],
     'Add(Call("f", [Num("1"), *x1]), Call("f", [*x1]))'),
    ([Tree("raw_expr", "a"), Tree("raw_expr", "b")], "raw_expr($x1)"),
    ([Tree("raw_expr", "a"), num("a")], "x1"),
]


class CommonInstanceTest(Case):

    def check_common(self, one, other, text):
        for left, right in ((one, other), (other, one)):
            found = left & right
            self.assertIs(type(found), Pattern)
            self.assertTrue(found <= left and found <= right)
            self.assertTrue(do_meet(left, right) is True)
            self.assertEqual((found.kin, found.schema), (one.kin, one.schema))
        self.assertEqual((one & other).text, text)

    def check_no_common(self, one, other, reason):
        for left, right in ((one, other), (other, one)):
            self.check_raises(NoCommon, {"reason": reason}, lambda: left & right)
            self.assertTrue(do_meet(left, right) is False)

    def test_common_instances(self):
        for one, other, text in COMMON:
            with self.subTest(one.text + " & " + other.text):
                self.check_common(one, other, text)

    def test_clashes(self):
        for one, other in CLASHES:
            with self.subTest(one.text + " & " + other.text):
                self.check_no_common(one, other, "clash")

    def test_rings(self):
        for one, other in RINGS:
            with self.subTest(one.text + " & " + other.text):
                self.check_no_common(one, other, "ring")

    def test_names_of_the_two_are_different_ones(self):
        self.check_common(expr(p_add(X, Y)), expr(p_add(p_neg(Y), X)), "Add(Neg(x1), x2)")
        self.check_common(expr(p_add(X, ONE)), expr(p_add(p_neg(X), X)), 'Add(Neg(Num("1")), Num("1"))')
        self.check_common(expr(p_neg(X)), expr(X), "Neg(x1)")
        self.check_common(expr(p_call(W, R)), expr(p_call("f", Var("w"), Var("r"))), 'Call("f", [x1, x2])')

    def test_variables_are_called_in_their_order(self):
        found = stmt(p_let(W, X, (S, Rest("m")), (X, Y, R))) & stmt(p_let(U, p_add(Y, X), (S, S), (Z, p_num(W), Q)))
        self.assertEqual(found.text, "Let($x1, Add(x2, x3), [x4, x4], [Add(x2, x3), Num($x5), *x6])")
        self.assertEqual(found.variables, ("x1", "x2", "x3", "x4", "x5", "x6"))
        self.assertEqual([found.takes(name) for name in found.variables],
                         ["text", "expr", "expr", "stmt", "text", "expr*"])

    def test_a_var_as_root_keeps_its_sort(self):
        found = stmt(S) & stmt(Var("t"))
        self.assertEqual((found.text, found.kin, found.takes("x1")), ("x1", "stmt", "stmt"))

    def test_equal_schemas(self):
        one = Pattern(make_schema(), p_neg(X))
        self.assertEqual((one & expr(p_neg(ONE))).text, 'Neg(Num("1"))')
        self.assertEqual((one | expr(p_neg(ONE))).text, "Neg(x1)")
        self.assertTrue(do_meet(one, expr(X)) is True)

    def test_the_largest_common_instances(self):
        names = [Var("v" + str(number)) for number in range(59)]
        one = expr(p_call("f", *names))
        self.assertEqual(len((one & expr(p_call("f", R))).variables), 59)
        twice = expr(p_add(X, X))
        found = twice & expr(p_add(p_call("g", *names[:28]), Y))
        self.assertEqual((found.root.text.count("x28"), len(found.variables)), (2, 28))
        self.check_raises(TooLarge, {"limit": 60}, lambda: twice & expr(p_add(p_call("g", *names[:29]), Y)))

    def test_exactly_60_and_61(self):
        names = [Var("v" + str(number)) for number in range(59)]
        twice = expr(p_call("f", X, X, Y))
        for more, is_large in ((Y, False), (p_neg(Y), True)):
            other = expr(p_call("f", p_call("g", *names[:28]), X, more))
            if is_large:
                self.check_raises(TooLarge, {"limit": 60}, lambda: twice & other)
            else:
                self.assertEqual((twice & other).text.count("x28"), 2)
            self.assertTrue(do_meet(twice, other) is True)

    def test_levels_of_common_instances(self):
        twice = expr(p_add(X, p_neg(X)))
        self.assertEqual((twice & expr(p_add(negs(6, X), Y))).text.count("Neg"), 11)
        for other in (p_add(negs(7, X), Y), p_add(negs(7, ONE), Y)):
            self.check_raises(TooLarge, {"limit": 60}, lambda: twice & expr(other))
            self.assertTrue(do_meet(twice, expr(other)) is True)

    def test_no_common_instance_comes_ahead_of_its_size(self):
        names = [Var("v" + str(number)) for number in range(40)]
        one = expr(p_call("f", X, X, Y, Y))
        other = expr(p_call("f", p_call("g", *names), X, ONE, TWO))
        self.check_no_common(one, other, "clash")
        other = expr(p_call("f", p_call("g", *names), X, Y, p_neg(Y)))
        self.check_no_common(one, other, "ring")

    def test_common_instances_that_double_with_every_argument(self):
        first = [Var("x" + str(number)) for number in range(15)]
        row = expr(p_call("f", *[p_add(first[at + 1], first[at + 1]) for at in range(14)], first[14]))
        chain = expr(p_call("f", *first[:14], Z))
        self.assertTrue(do_meet(row, chain) is True)
        self.assertEqual(row & chain, row)
        # Each variable of one pattern stands for two of those of the next one.
        left = expr(p_call("f", *first[:14], *first[:14]))
        right = expr(p_call("f", *first[:14], *[p_add(first[at + 1], first[at + 1]) for at in range(13)], ONE))
        self.assertTrue(do_meet(left, right) is True)
        self.check_raises(TooLarge, {"limit": 60}, lambda: left & right)
        self.check_raises(TooLarge, {"limit": 60}, lambda: right & left)
        clash = expr(p_call("f", *[ONE] * 13, TWO, *[p_add(first[at + 1], first[at + 1]) for at in range(13)], ONE))
        self.check_no_common(left, clash, "clash")

    def test_other_schemas(self):
        one = expr(p_num(W))
        for other in (Pattern(OTHER, p_num(W)), Pattern(OTHER, p_num("1")), stmt(S), stmt(PASS),
                      Pattern(Schema(*SCHEMA.forms, Form("Sub", "expr")), X, "expr")):
            for call_it in (lambda: one & other, lambda: one | other, lambda: other & one, lambda: other | one,
                            lambda: do_meet(one, other), lambda: do_meet(other, one)):
                self.check_raises(OtherSchema, {}, call_it)

    def test_other_schemas_come_first(self):
        large = Pattern(SCHEMA, call("f", *[ONE] * 59))
        self.check_raises(OtherSchema, {}, lambda: large & Pattern(OTHER, p_num("2")))

    def test_the_patterns_stay_the_same(self):
        one, other = expr(p_add(X, Y)), expr(p_add(ONE, Y))
        for _ in range(2):
            self.assertEqual(((one & other).text, (one | other).text), ('Add(Num("1"), x1)', "Add(x1, x2)"))
        self.assertEqual((one.text, one.variables, other.text), ("Add(x, y)", ("x", "y"), 'Add(Num("1"), y)'))

    def test_arguments_by_name(self):
        self.assertTrue(do_meet(other=expr(ONE), one=expr(X)) is True)


class GeneralizationTest(Case):

    def test_generalizations(self):
        for roots, text in GENERAL:
            one, other = [expr(root) for root in roots]
            with self.subTest(one.text + " | " + other.text):
                found = one | other
                self.assertIs(type(found), Pattern)
                self.assertEqual(found.text, text)
                self.assertEqual(other | one, found)
                self.assertTrue(one <= found and other <= found)
                self.assertEqual((found.kin, found.schema), ("expr", SCHEMA))

    def test_sorts(self):
        found = stmt(S) | stmt(PASS)
        self.assertEqual((found.text, found.kin, found.takes("x1")), ("x1", "stmt", "stmt"))
        found = stmt(let("a", ONE, (PASS,), (ONE,))) | stmt(let("b", neg(ONE), (), (ONE, TWO)))
        self.assertEqual(found.text, 'Let($x1, x2, [*x3], [Num("1"), *x4])')
        self.assertEqual(found.all_taken(), {"x1": "text", "x2": "expr", "x3": "stmt*", "x4": "expr*"})

    def test_variables_are_called_in_their_order(self):
        found = stmt(let("a", neg(ONE), (PASS,), (TWO,))) | stmt(let("b", neg(TWO), (let("c", ONE),), (neg(ONE),)))
        self.assertEqual(found.text, "Let($x1, Neg(Num($x2)), [x3], [x4])")

    def test_large_patterns(self):
        names = [Var("v" + str(number)) for number in range(59)]
        one, other = expr(p_call("f", *names)), expr(p_call("f", *[ONE] * 59))
        self.assertEqual(len((one | other).variables), 59)
        self.assertEqual((one | one), one)
        self.assertEqual((expr(negs(8)) | expr(negs(8, X))), expr(negs(8, X)))
        self.assertEqual((expr(negs(8)) | expr(negs(7))), expr(negs(7, X)))


class LearnedTest(Case):

    def check_learned(self, good, bad, text):
        """Check the pattern that is learned."""
        word, found = learned(SCHEMA, good, bad)
        self.assertEqual((word, type(found)), ("pattern", Pattern))
        self.assertEqual((found.text, found.kin), (text, SCHEMA[good[0].form].kin))
        self.assertEqual(learned(SCHEMA, tuple(good), tuple(bad))[1], found)
        for tree in good:
            self.assertIn(tree, found)
        for tree in bad:
            self.assertNotIn(tree, found)

    def test_patterns(self):
        self.check_learned([ONE], [], 'Num("1")')
        self.check_learned([ONE], [TWO, neg(ONE)], 'Num("1")')
        self.check_learned([ONE, TWO, THREE], [neg(ONE)], "Num($x1)")
        self.check_learned([ONE, ONE], [TWO], 'Num("1")')
        self.check_learned([ONE, neg(ONE)], [], "x1")
        self.check_learned([add(ONE, ONE), add(TWO, TWO), add(neg(ONE), neg(ONE))], [add(ONE, TWO)], "Add(x1, x1)")
        self.check_learned([call("f"), call("f", ONE), call("f", ONE, TWO)], [call("g"), ONE], 'Call("f", [*x1])')
        self.check_learned([call("f", ONE), call("f", ONE, TWO)], [call("f")], 'Call("f", [Num("1"), *x1])')
        self.check_learned([PASS, let("a", ONE)], [], "x1")
        self.check_learned([add(ONE, TWO), add(TWO, ONE), add(ONE, ONE)], [add(ONE, neg(ONE))],
                           "Add(Num($x1), Num($x2))")

    def test_generalizations_of_two_roots(self):
        for roots, text in GENERAL:
            if all(isinstance(root, Tree) for root in roots):
                self.check_learned(roots, [], text)

    def test_bad_trees_that_fit(self):
        good = [add(ONE, TWO), add(TWO, THREE)]
        self.assertEqual(learned(SCHEMA, good, [neg(ONE), add(THREE, ONE), add(ONE, ONE)]), ("tree", 1))
        self.assertEqual(learned(SCHEMA, good, good), ("tree", 0))
        self.assertEqual(learned(SCHEMA, [ONE, neg(ONE)], [call("f")]), ("tree", 0))
        self.assertEqual(learned(SCHEMA, [ONE], [TWO, TWO, ONE]), ("tree", 2))
        self.assertEqual(learned(SCHEMA, (call("f"), call("f", ONE)), (call("g"), call("f", TWO, TWO))), ("tree", 1))
        self.assertIs(type(learned(SCHEMA, [ONE], [ONE])[1]), int)

    def test_wrong_trees(self):
        wrong, other = Tree("Num"), neg(Tree("Sub"))
        for good, bad, place in (([wrong], [], ()), ([ONE, neg(wrong)], [other], (0,)),
                                 ([ONE], [TWO, add(ONE, wrong)], (1,)),
                                 ([ONE, neg(neg(other))], [wrong], (0, 0)), ([ONE, PASS], [neg(wrong)], (0,)),
                                 ([PASS], [ONE, neg(neg(wrong))], (0, 0)), ([add(wrong, wrong), wrong], [], (0,))):
            self.check_raises(WrongTree, {}, lambda: learned(SCHEMA, good, bad))
            try:
                learned(SCHEMA, good, bad)
            except WrongTree as error:
                self.assertEqual(error.place, place)

    def test_other_sorts(self):
        for good, bad in (([ONE, PASS], []), ([PASS, ONE], []), ([ONE], [PASS]), ([PASS], [PASS, ONE]),
                          ([ONE], [ONE, PASS])):
            self.check_raises(OtherSchema, {}, lambda: learned(SCHEMA, good, bad))

    def test_sizes(self):
        self.check_learned([call("f", *[ONE] * 59)], [], 'Call("f", [' + ", ".join(['Num("1")'] * 59) + "])")
        self.check_raises(TooLarge, {"limit": 60}, lambda: learned(SCHEMA, [call("f", *[ONE] * 60)], []))
        self.check_raises(TooLarge, {"limit": 60}, lambda: learned(SCHEMA, [call("f", *[ONE] * 399)] * 3, [ONE]))
        self.check_learned([negs(8)], [negs(7), negs(9)], negs(8).text)
        self.check_raises(TooLarge, {"limit": 60}, lambda: learned(SCHEMA, [negs(9)], []))
        self.check_raises(TooLarge, {"limit": 60}, lambda: learned(SCHEMA, [negs(100), negs(99)], [negs(98)]))
        self.check_learned([negs(8), negs(100)], [negs(7)], negs(8, Var("x1")).text)
        self.check_learned([call("f", *[ONE] * 58, neg(ONE)), call("f", *[ONE] * 300)], [call("f")],
                           'Call("f", [' + 'Num("1"), ' * 58 + "x1, *x2])")

    def test_bad_trees_come_ahead_of_the_size(self):
        large = call("f", *[ONE] * 399)
        other = call("f", *[ONE] * 398, TWO)
        self.assertEqual(learned(SCHEMA, [large], [ONE, large]), ("tree", 1))
        self.assertEqual(learned(SCHEMA, [large, other], [call("f"), call("f", *[ONE] * 398, THREE)]), ("tree", 1))
        self.assertEqual(learned(SCHEMA, [negs(100), negs(99)], [negs(98), negs(100, TWO)]), ("tree", 1))
        self.check_raises(TooLarge, {"limit": 60}, lambda: learned(SCHEMA, [large, other], [call("f", *[ONE] * 397)]))

    def test_faults_in_their_order(self):
        large = call("f", *[ONE] * 399)
        self.check_raises(WrongTree, {}, lambda: learned(SCHEMA, [large, PASS], [Tree("Sub")]))
        self.check_raises(OtherSchema, {}, lambda: learned(SCHEMA, [large, large], [large, PASS]))

    def test_the_lists_stay_the_same(self):
        good, bad = [ONE, TWO], [neg(ONE)]
        learned(SCHEMA, good, bad)
        self.assertEqual((good, bad), ([ONE, TWO], [neg(ONE)]))

    def test_arguments_by_name(self):
        self.assertEqual(learned(bad=[ONE], schema=SCHEMA, good=[ONE]), ("tree", 0))
        self.assertEqual(learned(good=[ONE], bad=[], schema=make_schema())[1], expr(ONE))


if __name__ == "__main__":
    unittest.main()
