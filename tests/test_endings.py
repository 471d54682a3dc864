"""Tests of ruleengine.endings, worked out by hand."""

import unittest

from ruleengine.conditions import All, Has
from ruleengine.endings import Crossing, all_crossings, check_endings, decide_endings
from ruleengine.errors import InvalidAnswer, NotPlain, TooLarge
from ruleengine.fixes import Fixer
from ruleengine.patterns import Pattern
from ruleengine.rules import Rule, RuleSet
from ruleengine.trees import Like, Rest, Tree, Var, Word
from tests.helpers import Agreeable, Case, nested, odd_arguments, repeated
from tests.samples import (
    ONE, PASS, R, SCHEMA, THREE, TWO, U, W, X, Y, Z, add, call, let, neg, negs, num, p_add, p_call, p_let, p_neg, p_num,
    some_things)


def make_fixer(*rows, **more):
    """A fixer with rules that are given as triples of a name, a root and a template."""
    rules = RuleSet(SCHEMA, *[Rule(name, root, more.get(name), sort=None) for name, root, _ in rows])
    return Fixer(rules, {name: template for name, _, template in rows if template is not None})


def told(fixer):
    """The crossings, with the texts of their patterns."""
    return [(one.outer_rule, one.inner_rule, one.path, one.crossed.text, one.first.text, one.second.text)
            for one in all_crossings(fixer)]


def deep(levels, bottom=X):
    """So many negations around a node of a pattern."""
    for _ in range(levels):
        bottom = p_neg(bottom)
    return bottom


TWICE = ("twice", p_neg(p_neg(X)), X)
THRICE = ("thrice", p_neg(p_neg(p_neg(X))), X)
# The crossing of the rule with itself leads to one tree, as all do.
FINE = make_fixer(TWICE)
# Three negations become nothing or one.
WRONG = make_fixer(TWICE, THRICE)


class CrossingTest(Case):

    def test_a_rule_with_itself(self):
        self.assertEqual(told(FINE), [("twice", "twice", (0,), "Neg(Neg(Neg(x1)))", "Neg(x1)", "Neg(x1)")])
        # Not at the root, where both results are the same.
        self.assertEqual(told(make_fixer(("a", p_add(p_num(W), X), X))), [])
        self.assertEqual(told(make_fixer(("a", p_add(p_add(X, Y), Z), p_add(Y, Z)))), [
            ("a", "a", (0,), "Add(Add(Add(x1, x2), x3), x4)", "Add(x3, x4)", "Add(Add(x2, x3), x4)")])

    def test_two_rules(self):
        self.assertEqual(told(WRONG), [
            ("twice", "twice", (0,), "Neg(Neg(Neg(x1)))", "Neg(x1)", "Neg(x1)"),
            ("twice", "thrice", (), "Neg(Neg(Neg(x1)))", "Neg(x1)", "x1"),
            ("twice", "thrice", (0,), "Neg(Neg(Neg(Neg(x1))))", "Neg(Neg(x1))", "Neg(x1)"),
            ("thrice", "twice", (0,), "Neg(Neg(Neg(x1)))", "x1", "Neg(x1)"),
            ("thrice", "twice", (0, 0), "Neg(Neg(Neg(Neg(x1))))", "Neg(x1)", "Neg(Neg(x1))"),
            ("thrice", "thrice", (0,), "Neg(Neg(Neg(Neg(x1))))", "Neg(x1)", "Neg(x1)"),
            ("thrice", "thrice", (0, 0), "Neg(Neg(Neg(Neg(Neg(x1)))))", "Neg(Neg(x1))", "Neg(Neg(x1))")])
        # At the root the upper rule stands before the lower one.
        self.assertEqual([one[:3] for one in told(make_fixer(THRICE, TWICE))][2:5], [
            ("thrice", "twice", ()), ("thrice", "twice", (0,)), ("thrice", "twice", (0, 0))])

    def test_variables_of_both_rules(self):
        # The names of the two rules are different ones, although they are the same texts.
        rules = make_fixer(("up", p_add(p_neg(X), Y), p_neg(Y)), ("low", p_neg(p_add(X, Y)), p_add(Y, X)))
        self.assertEqual(told(make_fixer(("up", p_add(p_neg(X), Y), Y), ("low", p_neg(p_add(X, Y)), X))), [
            ("up", "low", (0,), "Add(Neg(Add(x1, x2)), x3)", "x3", "Add(x1, x3)"),
            ("low", "up", (0,), "Neg(Add(Neg(x1), x2))", "Neg(x1)", "Neg(x2)")])
        self.assertEqual(told(rules), [
            ("up", "low", (0,), "Add(Neg(Add(x1, x2)), x3)", "Neg(x3)", "Add(Add(x2, x1), x3)"),
            ("low", "up", (0,), "Neg(Add(Neg(x1), x2))", "Add(x2, Neg(x1))", "Neg(Neg(x2))")])

    def test_variables_that_are_replaced_elsewhere(self):
        # What stands for a variable at the path stands for it everywhere in the upper pattern.
        fixer = make_fixer(("up", p_add(X, p_neg(X)), X), ("low", p_neg(p_num("1")), ONE))
        self.assertEqual(told(fixer), [
            ("up", "low", (1,), 'Add(Num("1"), Neg(Num("1")))', 'Num("1")', 'Add(Num("1"), Num("1"))')])
        fixer = make_fixer(("up", p_add(p_num(W), p_neg(p_call(W, X))), X), ("low", p_call("f", p_neg(Y)), p_neg(Y)))
        self.assertEqual(told(fixer), [
            ("up", "low", (1, 0), 'Add(Num("f"), Neg(Call("f", [Neg(x1)])))', "Neg(x1)",
             'Add(Num("f"), Neg(Neg(x1)))')])

    def test_words(self):
        fixer = make_fixer(("up", p_neg(p_num(W)), p_num(W)), ("low", p_call(W, p_neg(p_num(U))), p_num(W)))
        self.assertEqual(told(fixer), [
            ("low", "up", (0,), "Call($x1, [Neg(Num($x2))])", "Num($x1)", "Call($x1, [Num($x2)])")])

    def test_paths_in_rows_and_beside_texts(self):
        fixer = make_fixer(("up", p_call(W, X, p_neg(Y), p_neg(ONE)), Y), ("low", p_neg(p_num(U)), p_num(U)))
        self.assertEqual([one[:3] for one in told(fixer)], [("up", "low", (1,)), ("up", "low", (2,))])
        self.assertEqual(told(fixer)[1][3:], (
            'Call($x1, [x2, Neg(x3), Neg(Num("1"))])', "x3", 'Call($x1, [x2, Neg(x3), Num("1")])'))
        fixer = make_fixer(("up", p_let(W, p_neg(X), (PASS,), (p_num(U), p_neg(p_neg(Y)))), p_let(W, X)),
                           ("low", p_neg(p_neg(Y)), num("0")), ("none", Tree("Let", "a", ONE, (), ()), PASS))
        self.assertEqual([one[:3] for one in told(fixer)], [
            ("up", "low", (0,)), ("up", "low", (3,)), ("up", "low", (3, 0)), ("low", "low", (0,))])
        self.assertEqual(told(fixer)[0][5], 'Let($x1, Num("0"), [Pass()], [Num($x3), Neg(Neg(x4))])')
        self.assertEqual(told(fixer)[2][5], 'Let($x1, Neg(x2), [Pass()], [Num($x3), Neg(Num("0"))])')

    def test_trees_as_roots(self):
        fixer = make_fixer(("up", add(neg(neg(ONE)), TWO), ONE), TWICE)
        self.assertEqual(told(fixer)[0], (
            "up", "twice", (0,), 'Add(Neg(Neg(Num("1"))), Num("2"))', 'Num("1")', 'Add(Num("1"), Num("2"))'))

    def test_clashes_rings_and_other_sorts(self):
        self.assertEqual(told(make_fixer(("a", p_add(p_neg(ONE), X), X), ("b", p_neg(TWO), TWO))), [])
        self.assertEqual(told(make_fixer(("a", p_add(p_neg(X), p_add(X, X)), X), ("b", p_add(Y, p_neg(Y)), Y))), [])
        ring = p_add(p_add(X, p_neg(X)), ONE)
        self.assertEqual(told(make_fixer(("a", ring, ONE), ("b", p_add(Y, Y), Y))), [])
        self.assertEqual(told(make_fixer(("a", p_let(W, p_neg(X)), p_let(W, X)), ("b", p_let(W, ONE), PASS)))[:1], [])
        # A variable is no node with a form.
        self.assertEqual(told(make_fixer(("a", p_add(X, ONE), X), ("b", p_neg(p_num("7")), ONE))), [])
        self.assertEqual(told(make_fixer(("a", p_call("f", X), X), ("b", p_call("f", X, Y), X))), [])

    def test_properties(self):
        crossing = all_crossings(WRONG)[1]
        self.assertIs(type(crossing), Crossing)
        self.assertIs(type(all_crossings(fixer=WRONG)), tuple)
        self.assertEqual([type(one) for one in (crossing.crossed, crossing.first, crossing.second)], [Pattern] * 3)
        self.assertEqual(crossing.crossed, Pattern(SCHEMA, deep(3)))
        self.assertEqual((crossing.first.kin, crossing.second.kin), ("expr", "expr"))
        crossed, first, second = crossing.trees
        leaf = second
        self.assertEqual((leaf.form, len(leaf.parts[0]) <= 60), ("raw_expr", True))
        self.assertEqual((crossed, first), (neg(neg(neg(leaf))), neg(leaf)))
        self.check_equal(crossing, crossing)
        self.check_unequal(crossing, all_crossings(WRONG)[1])
        self.assertEqual(all_crossings(make_fixer()), ())

    def test_trees_with_other_texts(self):
        texts = [str(number) for number in range(30)]
        fixer = make_fixer(("up", p_call(W, p_neg(X), p_num(U), *[num(text) for text in texts[:20]]), p_call(
            W, X, p_num(U), *[num(text) for text in texts[15:30]])), ("low", p_neg(p_num(W)), num("x")))
        crossing = all_crossings(fixer)[0]
        self.assertEqual(crossing.crossed.variables, ("x1", "x2", "x3"))
        binding = crossing.crossed(crossing.trees[0])
        self.assertEqual(len(set(binding.values())), 3)
        self.assertEqual(set(binding.values()) & {*texts, "x"}, set())
        self.assertEqual([crossing.first(crossing.trees[1]), crossing.second(crossing.trees[2])["x1"]],
                         [binding, binding["x1"]])

    def test_sets_that_are_not_plain(self):
        raw = Like("raw_expr", W)
        right = ("right", p_neg(p_neg(X)), X)
        for row in (("wrong", p_add(X, Y), None), ("wrong", p_add(X, Y), p_add(Y, X)), ("wrong", p_add(X, X), p_neg(X)),
                    ("wrong", p_call(W, p_neg(X), R), X), ("wrong", p_call(W, X, Y, R), p_call(W, R)),
                    ("wrong", p_neg(raw), p_num(W)), ("wrong", p_neg(Tree("raw_expr", "a")), ONE),
                    ("wrong", p_neg(p_num(W)), raw), ("wrong", p_neg(p_neg(X)), Tree("raw_expr", "")),
                    ("wrong", p_add(p_neg(X), ONE), p_add(X, X))):
            for fixer in (make_fixer(row), make_fixer(row, right), make_fixer(right, row),
                          make_fixer(right, row, ("later", p_add(X, Y), None))):
                for call_it in (all_crossings, decide_endings):
                    self.check_raises(NotPlain, {"word": "wrong"}, lambda: call_it(fixer))
                self.check_raises(NotPlain, {"word": "wrong"}, lambda: check_endings(fixer, None))
        for condition in (Has(ONE), All()):
            self.check_raises(NotPlain, {"word": "wrong"}, lambda: all_crossings(
                make_fixer(right, ("wrong", p_neg(p_num(W)), ONE), wrong=condition)))
        self.assertEqual(len(all_crossings(make_fixer(right))), 1)

    def test_the_first_rule_that_is_not_plain(self):
        fixer = make_fixer(("a", p_add(X, Y), X), ("b", p_add(X, ONE), None), ("c", p_call(W, ONE, R), ONE))
        self.check_raises(NotPlain, {"word": "b"}, lambda: all_crossings(fixer))
        fixer = make_fixer(("c", p_call(W, ONE, R), ONE), ("b", p_add(X, ONE), None))
        self.check_raises(NotPlain, {"word": "c"}, lambda: all_crossings(fixer))

    def test_crossed_patterns_of_60_and_of_61(self):
        row = [p_neg(Var("x" + str(number))) for number in range(29)]
        low = ("low", p_neg(p_neg(Y)), Y)
        fixer = make_fixer(("up", p_call("f", *row), ONE), low)
        crossings = all_crossings(fixer)
        self.assertEqual(len(crossings), 30)
        self.assertEqual({one.crossed.root.size for one in crossings[:29]}, {60})
        self.assertEqual(crossings[28].path, (28,))
        larger = make_fixer(("up", p_call("f", *row, ONE), ONE), low)
        for call_it in (all_crossings, decide_endings):
            self.check_raises(TooLarge, {"limit": 60}, lambda: call_it(larger))
        self.check_raises(TooLarge, {"limit": 60}, lambda: check_endings(larger, None))
        # Without a lower rule nothing becomes larger.
        self.assertEqual(all_crossings(make_fixer(("up", p_call("f", *row, ONE), ONE))), ())

    def test_levels_of_crossed_patterns(self):
        low = ("low", p_neg(p_neg(Y)), Y)
        self.assertEqual(len(all_crossings(make_fixer(("up", p_call("f", deep(5)), X), low))), 6)
        self.check_raises(TooLarge, {"limit": 60}, lambda: all_crossings(
            make_fixer(("up", p_call("f", deep(6)), X), low)))

    def test_levels_of_results(self):
        low = ("low", p_neg(p_num("x")), TWO)
        wide = p_call("f", p_neg(X), *[ONE] * 8)
        self.assertEqual(len(all_crossings(make_fixer(("up", wide, deep(7)), low))), 1)
        low = ("low", p_neg(p_neg(Y)), Y)
        self.assertEqual(len(all_crossings(make_fixer(("up", wide, deep(6)), low))), 2)
        self.check_raises(TooLarge, {"limit": 60}, lambda: all_crossings(make_fixer(("up", wide, deep(7)), low)))
        # The second result, too.
        row = p_call("f", X, *[ONE] * 8)
        self.assertEqual(told(make_fixer(("up", p_add(row, ONE), ONE), ("low", row, deep(6))))[0][:3],
                         ("up", "low", (0,)))
        self.check_raises(TooLarge, {"limit": 60}, lambda: all_crossings(
            make_fixer(("up", p_add(row, ONE), ONE), ("low", row, deep(7)))))

    def test_plainness_comes_before_size(self):
        row = [p_neg(Var("x" + str(number))) for number in range(29)]
        fixer = make_fixer(("up", p_call("f", *row, ONE), ONE), ("low", p_neg(p_neg(Y)), Y), ("last", ONE, TWO))
        self.check_raises(NotPlain, {"word": "last"}, lambda: all_crossings(fixer))


class DecideTest(Case):

    def check_two(self, fixer, finals):
        """Check that trees have two final trees."""
        answer = decide_endings(fixer)
        self.assertEqual((answer[0], len(answer)), ("two", 4))
        self.assertEqual(check_endings(fixer, answer), "two")
        ends = []
        for steps in answer[2:]:
            tree = answer[1]
            for name, path in steps:
                found = [one for one in fixer.rules.run(tree) if (one.rule, one.path) == (name, path)]
                tree = fixer.fix(tree, found[0])
            self.assertEqual(list(fixer.rules.run(tree)), [])
            ends.append(tree.form)
        self.assertEqual(sorted(ends), finals)

    def test_one_final_tree(self):
        self.assertEqual(decide_endings(FINE), ("one", (((), ()),)))
        self.assertEqual(decide_endings(make_fixer()), ("one", ()))
        self.assertEqual(decide_endings(make_fixer(("a", p_add(X, ONE), X))), ("one", ()))
        fixer = make_fixer(("zero", p_add(num("0"), X), X), ("last", p_add(X, num("0")), X))
        answer = decide_endings(fixer=fixer)
        self.assertEqual(answer, ("one", (((), ()),)))
        self.assertEqual(check_endings(answer=answer, fixer=fixer), "one")

    def test_rows_with_fixes(self):
        # Add(Neg(x), y) becomes y; below it, a double negation may be taken away first.
        fixer = make_fixer(("drop", p_add(p_neg(X), Y), Y), ("once", p_neg(p_neg(X)), p_neg(X)))
        self.assertEqual([one[:3] for one in told(fixer)], [("drop", "once", (0,)), ("once", "once", (0,))])
        answer = decide_endings(fixer)
        self.assertEqual(answer, ("one", (((), (("drop", ()),)), ((("once", ()),), (("once", ()),)))))
        self.assertEqual(check_endings(fixer, answer), "one")

    def test_two_final_trees(self):
        self.check_two(make_fixer(("a", p_neg(p_num(W)), ONE), ("b", p_neg(ONE), p_num("2"))), ["Num", "Num"])
        fixer = make_fixer(("a", p_neg(p_neg(p_add(X, Y))), p_add(Y, X)), ("b", p_neg(p_add(X, Y)), X))
        self.check_two(fixer, sorted(["Add", "Neg"]))
        self.check_two(WRONG, sorted(["Neg", "raw_expr"]))

    def test_texts_that_are_equal_by_chance(self):
        # The rule for equal texts does not find the fresh ones, which are different.
        fixer = make_fixer(("same", p_add(p_num(W), p_num(W)), p_num(W)), ("drop", p_neg(p_add(X, Y)), p_neg(X)))
        self.assertEqual(told(fixer), [
            ("drop", "same", (0,), "Neg(Add(Num($x1), Num($x1)))", "Neg(Num($x1))", "Neg(Num($x1))")])
        self.assertEqual(decide_endings(fixer), ("one", (((), ()),)))


class CheckTest(Case):

    def check_refused(self, fixer, answer, part):
        self.check_raises(InvalidAnswer, {"part": part}, lambda: check_endings(fixer, answer))

    def test_forms(self):
        one, two = decide_endings(FINE), decide_endings(WRONG)
        values = odd_arguments() + some_things() + [
            ("a list", list(one)), ("one alone", ("one",)), ("three for one", (*one, None)),
            ("another word", ("two", one[1])), ("four for one", ("one", *two[1:])), ("five for two", (*two, None)),
            ("three for two", two[:3]), ("a word", "one"), ("an agreeable word", (Agreeable(), one[1])),
            ("nothing", ()), ("a list in it", (["one"], ()))]
        for label, value in values:
            with self.subTest(label):
                for fixer in (FINE, WRONG):
                    self.check_refused(fixer, value, "form")

    def test_rows(self):
        for label, value in odd_arguments() + [
                ("too few", ()), ("too many", (((), ()), ((), ()))), ("a list", [((), ())]),
                ("a row as a list", ([(), ()],)), ("one of a pair", (((),),)), ("three of a pair", (((), (), ()),)),
                ("lists of steps", (([], []),))]:
            with self.subTest(label):
                self.check_refused(FINE, ("one", value), "one")
                self.check_refused(FINE, ("one", (value,)), "one")
                if label != "too few":
                    self.check_refused(FINE, ("one", ((value, ()),)), "one")
                self.check_refused(FINE, ("one", (((), (value,)),)), "one")
        self.check_refused(WRONG, ("one", (((), ()),) * 7), "one")

    def test_steps(self):
        fixer = make_fixer(("drop", p_add(p_neg(X), Y), Y), ("once", p_neg(p_neg(X)), p_neg(X)))
        last = ((("once", ()),), (("once", ()),))
        self.assertEqual(check_endings(fixer, ("one", (((), (("drop", ()),)), last))), "one")
        # Other fixes that lead to one tree.
        self.assertEqual(check_endings(fixer, ("one", (((), (("drop", ()),)), ((), ())))), "one")
        for label, value in odd_arguments() + [("another name", "none"), ("another rule", "once"), ("no text", "")]:
            with self.subTest(label):
                self.check_refused(fixer, ("one", (((), ((value, ()),)), last)), "one")
        for label, value in odd_arguments() + [("another path", (0,)), ("a long path", (0,) * 20000), ("a list", [])]:
            with self.subTest(label):
                self.check_refused(fixer, ("one", (((), (("drop", value),)), last)), "one")
        for steps in ((), (("drop", ()), ("drop", ())), ["drop", ()], (["drop", ()],), (("drop",),),
                      (("drop", (), None),), ("drop", []), "drop", ((("drop", ()),),), repeated(tuple),
                      nested(tuple)):
            self.check_refused(fixer, ("one", (((), steps), last)), "one")

    def test_two_trees(self):
        tree = neg(neg(neg(ONE)))
        right = ("two", tree, (("twice", ()),), (("thrice", ()),))
        self.assertEqual(check_endings(WRONG, right), "two")
        self.assertEqual(check_endings(WRONG, ("two", tree, right[3], (("twice", (0,)),))), "two")
        self.assertEqual(check_endings(WRONG, ("two", add(tree, ONE), (("twice", (0,)),), (("thrice", (0,)),))), "two")
        self.assertEqual(check_endings(WRONG, ("two", let("v", tree), (("twice", (0,)),), (("thrice", (0,)),))), "two")
        for label, value in odd_arguments() + some_things() + [
                ("a Like", deep(3, p_num("1"))), ("another tree", neg(neg(ONE))),
                ("no tree of the schema", neg(neg(neg(Tree("Sub"))))),
                ("another sort", neg(neg(neg(PASS)))), ("a final tree", ONE)]:
            with self.subTest(label):
                self.check_refused(WRONG, ("two", value, *right[2:]), "two")
                self.check_refused(WRONG, ("two", tree, value, right[3]), "two")
                self.check_refused(WRONG, ("two", tree, right[2], value), "two")
                self.check_refused(WRONG, ("two", tree, (value,), right[3]), "two")
                self.check_refused(WRONG, ("two", tree, ((value, ()),), right[3]), "two")
                if value != ():
                    self.check_refused(WRONG, ("two", tree, right[2], (("thrice", value),)), "two")

    def test_two_trees_that_are_not_final_or_the_same(self):
        tree = neg(neg(neg(ONE)))
        self.check_refused(WRONG, ("two", tree, (("twice", ()),), (("twice", (0,)),)), "two")
        self.check_refused(WRONG, ("two", tree, (("twice", ()),), (("twice", ()),)), "two")
        self.check_refused(WRONG, ("two", tree, (), (("thrice", ()),)), "two")
        self.check_refused(WRONG, ("two", neg(neg(tree)), (("twice", ()),), (("twice", ()), ("thrice", ()))), "two")
        self.check_refused(WRONG, ("two", neg(neg(tree)), (("thrice", ()),), (("thrice", ()), ("twice", ()))), "two")
        self.check_refused(FINE, ("two", tree, (("twice", ()),), (("twice", (0,)),)), "two")
        # The steps of a tree that is final already.
        self.check_refused(WRONG, ("two", ONE, (), ()), "two")

    def test_trees_with_too_many_levels(self):
        fixer = make_fixer(("deep", p_call("f", X, ONE, ONE), p_neg(p_neg(X))), ("low", p_call("f", X, ONE, Y), TWO))
        tree = negs(98, call("f", ONE, ONE, ONE))
        self.assertEqual(tree.levels, 99)
        right = ("two", tree, (("deep", (0,) * 97),), (("low", (0,) * 97),))
        self.assertEqual(check_endings(fixer, right), "two")
        tree = neg(tree)
        self.check_refused(fixer, ("two", tree, (("deep", (0,) * 98),), (("low", (0,) * 98),)), "two")
        self.check_refused(fixer, ("two", tree, (("low", (0,) * 98),), (("deep", (0,) * 98),)), "two")

    def test_answers_for_another_set(self):
        self.check_refused(WRONG, decide_endings(FINE), "one")
        self.check_refused(FINE, decide_endings(WRONG), "two")
        other = make_fixer(TWICE, ("thrice", deep(3), p_neg(X)))
        self.assertEqual(decide_endings(other)[0], "one")
        self.check_refused(other, decide_endings(WRONG), "two")


if __name__ == "__main__":
    unittest.main()
