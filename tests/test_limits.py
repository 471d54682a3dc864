"""Tests that calls end in a moment at the limits that the document names."""

import time
import unittest

from ruleengine.conditions import All, Has, Inside, Some
from ruleengine.errors import NoCommon, TooLarge
from ruleengine.flows import Flow, Plan
from ruleengine.forms import Form, Schema
from ruleengine.patterns import Pattern, check_cover, covers, do_meet, learned, mismatch
from ruleengine.rules import Rule, RuleSet
from ruleengine.trees import Like, Rest, Tree, Var, Word
from tests.helpers import Case

# Far more than each of the calls takes, and far less than one takes that tries all ways.
MOST_SECONDS = 20

SCHEMA = Schema(
    Form("Num", "e", value="text"), Form("Neg", "e", of="e"), Form("Add", "e", left="e", right="e"),
    Form("Row", "e", items="e*"), Form("Texts", "e", a="text", b="text", c="text", d="text", e="text"),
    Form("Rows", "e", a="e*", b="e*", c="e*", d="e*", e="e*"), Form("Five", "e", a="e", b="e", c="e", d="e", e="e"))
X, Y, Z = Var("x"), Var("y"), Var("z")


def named(kind, many, letter="v"):
    """So many different variables of a kind."""
    return [kind(letter + str(number)) for number in range(many)]


def row(*nodes):
    return Like("Row", nodes)


def deep_tree():
    """A tree of 400 nodes and 100 levels: a chain, and a row at its end."""
    tree = Tree("Row", tuple(Tree("Num", str(number)) for number in range(301)))
    for _ in range(98):
        tree = Tree("Neg", tree)
    return tree


def comb_tree():
    """A tree of 397 nodes and 100 levels, with some leaves in each level."""
    tree = Tree("Num", "a")
    for number in range(99):
        tree = Tree("Row", (tree, *[Tree("Num", str(number % 7)) for _ in range(3)]))
    return tree


class LimitCase(Case):

    def check_moment(self, call):
        """Check that a call ends soon, and return what it returns."""
        start = time.perf_counter()
        result = call()
        self.assertLess(time.perf_counter() - start, MOST_SECONDS)
        return result


class PatternLimitTest(LimitCase):

    def test_patterns_with_many_variables(self):
        rests = row(*[Like("Rows", *[(rest,) for rest in named(Rest, 5, letter)]) for letter in
                      ["a" + str(number) + "_" for number in range(59)]])
        words = row(*[Like("Texts", *named(Word, 5, "w" + str(number) + "_")) for number in range(59)])
        for root, many in ((rests, 295), (words, 295), (row(*named(Var, 59)), 59)):
            pattern = self.check_moment(lambda: Pattern(SCHEMA, root))
            self.assertEqual(len(pattern.variables), many)
            self.assertTrue(self.check_moment(lambda: pattern <= pattern))
            self.assertEqual(self.check_moment(lambda: pattern & pattern), pattern)
            self.assertEqual(self.check_moment(lambda: pattern | pattern), pattern)
            self.assertEqual(self.check_moment(lambda: covers(pattern, pattern))[0], "instance")

    def test_trees_that_show_a_difference(self):
        raw = Like("raw_e", Word("w"))
        cases = [(row(*named(Var, 59)), row(*named(Var, 58), raw)), (row(*[X] * 59), row(*named(Var, 58), raw)),
                 (row(*named(Var, 59)), row(*named(Var, 58), Var("v0")))]
        last = Like("Rows", (), (), (), (), (Rest("z"),))
        many = [Like("Rows", *[(rest,) for rest in named(Rest, 5, "r" + str(number) + "_")]) for number in range(58)]
        cases.append((row(*many, last), row(*many, Like("Rows", (), (), (), (), ()))))
        for one, other in cases:
            one, other = Pattern(SCHEMA, one), Pattern(SCHEMA, other)
            answer = self.check_moment(lambda: covers(one, other))
            self.assertEqual(answer[0], "tree")
            self.assertEqual(self.check_moment(lambda: check_cover(one, other, answer)), "tree")

    def test_common_instances_that_double_with_every_argument(self):
        first = named(Var, 14)
        one = Pattern(SCHEMA, row(*first, *first))
        doubled = [Like("Add", first[at + 1], first[at + 1]) for at in range(13)]
        other = Pattern(SCHEMA, row(*first, *doubled, Tree("Num", "1")))
        self.assertTrue(self.check_moment(lambda: do_meet(one, other)))
        self.check_raises(TooLarge, {"limit": 60}, lambda: self.check_moment(lambda: one & other))
        self.assertFalse(self.check_moment(lambda: one <= other))
        # The same thing twice: both sides double, and are compared with each other.
        names, more = named(Var, 10), named(Var, 10, "u")
        one = Pattern(SCHEMA, row(*names[1:], *more[1:], names[9]))
        other = Pattern(SCHEMA, row(*[Like("Add", name, name) for name in names[:9]],
                                    *[Like("Add", name, name) for name in more[:9]], more[9]))
        self.assertTrue(self.check_moment(lambda: do_meet(one, other)))
        self.assertEqual(self.check_moment(lambda: (one | other)).root.parts[0][0], Var("x1"))

    def test_rings_behind_many_doublings(self):
        names = named(Var, 13)
        one = Pattern(SCHEMA, row(*names, *names, X, X))
        doubled = [Like("Add", names[at + 1], names[at + 1]) for at in range(12)]
        for last, reason in ((names[0], None), (Like("Neg", Y), "clash"), (Like("Add", Y, names[0]), "ring")):
            other = Pattern(SCHEMA, row(*names, *doubled, names[12], names[0], last))
            self.assertEqual(self.check_moment(lambda: do_meet(one, other)), reason is None)
            if reason is not None:
                self.check_raises(NoCommon, {"reason": reason}, lambda: self.check_moment(lambda: one & other))

    def test_walks_through_large_trees(self):
        for tree in (deep_tree(), comb_tree()):
            self.assertEqual(self.check_moment(lambda: Pattern(SCHEMA, X, "e")(tree)), {"x": tree})
            self.assertIsNotNone(self.check_moment(lambda: mismatch(Pattern(SCHEMA, row(X, X, Rest("r"))), tree)))
        five = Tree("Row", tuple(Tree("Texts", *["\\" * 60] * 5) for _ in range(399)))
        pattern = Pattern(SCHEMA, row(X, Rest("r")))
        self.assertEqual(len(self.check_moment(lambda: pattern(five))["r"]), 398)

    def test_learning_from_large_trees(self):
        trees = [deep_tree() for _ in range(30)]
        self.assertEqual(self.check_moment(lambda: learned(SCHEMA, trees, trees)), ("tree", 0))
        self.check_raises(TooLarge, {"limit": 60}, lambda: self.check_moment(
            lambda: learned(SCHEMA, trees, [Tree("Num", "1")] * 30)))
        texts = [Tree("Row", tuple(Tree("Texts", *[sign * 60] * 5) for _ in range(399))) for sign in "\\\"ab"]
        self.check_raises(TooLarge, {"limit": 60}, lambda: self.check_moment(lambda: learned(SCHEMA, texts, [])))
        found = self.check_moment(lambda: learned(SCHEMA, [*texts, Tree("Row", ())], []))
        self.assertEqual(found[1].text, "Row([*x1])")


class RuleLimitTest(LimitCase):

    def check_rules(self, make, tree, is_found):
        """Check 12 rules for all nodes with a condition that is made from a number, in a tree."""
        rules = RuleSet(SCHEMA, *[Rule("r" + str(number), X, make(number), sort="e") for number in range(12)])
        found = self.check_moment(lambda: list(rules.run(tree)))
        self.assertEqual(bool(found), is_found)
        for path in ((), (0,) * 50, (0,) * 99):
            answer = self.check_moment(lambda: rules.judge("r11", tree, path))
            self.assertEqual(self.check_moment(lambda: rules.check("r11", tree, path, answer)), answer[0])

    def test_conditions_beside_each_other(self):
        for tree in (deep_tree(), comb_tree()):
            self.check_rules(lambda number: Some(*[
                Has(Like("Add", X, Var("y" + str(at)))) for at in range(59)]), tree, False)
            self.check_rules(lambda number: All(*[Has(Var("y"), sort="e") for _ in range(59)]), tree, True)
            self.check_rules(lambda number: Some(*[Has(X, sort="e") | Inside(X, sort="e") for _ in range(19)]), tree,
                             False)

    def test_conditions_in_conditions(self):
        inner = [
            lambda at: Has(Like("Add", X, Var("z" + str(at)))), lambda at: Has(Like("Add", Y, Var("z" + str(at)))),
            lambda at: Inside(Like("Five", X, Y, X, Y, Var("z" + str(at)))),
            lambda at: Has(row(X, Y, Rest("r" + str(at)))),
            lambda at: Inside(X, sort="e"), lambda at: -Has(Var("z" + str(at)), sort="e") & Inside(X, sort="e")]
        for tree in (deep_tree(), comb_tree()):
            for make in inner:
                for kind in (Has, Inside):
                    rules = RuleSet(SCHEMA, *[Rule("r" + str(number), X, Some(*[
                        kind(Y, make(at), sort="e") for at in range(29)]), sort="e") for number in range(12)])
                    self.check_moment(lambda: list(rules.run(tree)))

    def test_answers_with_many_rows(self):
        for tree in (deep_tree(), comb_tree()):
            self.check_rules(lambda number: Some(*[
                Has(Y, Has(Like("Add", X, Var("z" + str(at)))), sort="e") for at in range(3)]), tree, False)
            self.check_rules(lambda number: Some(*[
                Inside(Y, Has(Like("Add", Y, Var("z" + str(at)))), sort="e") for at in range(3)]), tree, False)

    def test_conditions_with_large_roots(self):
        tree = Tree("Row", tuple(Tree("Row", tuple(Tree("Num", str(at)) for at in range(18))) for _ in range(21)))
        wide = row(*named(Var, 17), Var("v0"), Rest("r"))
        rules = RuleSet(SCHEMA, *[Rule("r" + str(number), row(*named(Var, 17, "x"), Rest("q")), Some(*[
            Has(wide) | Inside(row(*named(Var, 18, "t"), Rest("s" + str(at)))) for at in range(19)]))
                                  for number in range(12)])
        self.assertEqual(len(self.check_moment(lambda: list(rules.run(tree)))), 12 * 20 + 12 * 1)

    def test_deeply_nested_conditions(self):
        condition = Has(Like("Neg", Y))
        for number in range(59):
            condition = -condition if number % 3 == 0 else All(condition) if number % 3 == 1 else Some(condition)
        self.check_rules(lambda number: condition, deep_tree(), True)


class FlowLimitTest(LimitCase):

    def test_large_programs(self):
        schema = Schema(Form("Seq", "s", items="s*"), Form("Loop", "s", items="s*"), Form("Any", "s", items="s*"),
                        Form("Set", "s", word="text"), Form("Use", "s", word="text"), Form("Again", "s"))
        flow = Flow(schema, {"Loop": Plan("loop"), "Any": Plan("choice"), "Set": Plan(sets="word"),
                             "Use": Plan(uses="word"),
                             "Again": Plan("again")})
        for many in (1, 7, 150):
            leaves = tuple(Tree("Set" if number % 2 else "Use", str(number // 2 % many)) for number in range(300))
            for top in ("Seq", "Loop", "Any"):
                tree = Tree(top, leaves)
                for _ in range(98):
                    tree = Tree("Loop", (tree,))
                deepest = (0,) * 98 + (298,)
                self.check_moment(lambda: list(flow.idle_sets(tree)))
                self.check_moment(lambda: list(flow.unset_uses(tree)))
                self.assertEqual(self.check_moment(lambda: list(flow.unreached(tree))), [])
                self.assertEqual(len(self.check_moment(lambda: flow.points(tree))), 1197)
                question = flow.to_unset(tree, deepest)
                answer = self.check_moment(lambda: flow.ask(tree, question))
                self.assertEqual(self.check_moment(lambda: flow.check(tree, question, answer)), answer[0])

    def test_long_ways(self):
        schema = Schema(Form("Loop", "s", items="s*"))
        flow = Flow(schema, {"Loop": Plan("loop")})
        tree = Tree("Loop", (Tree("Loop", ()),))
        around = (((0,), "in"), ((0,), "deed"), ((0,), "out"))
        question = flow.to_do(tree, ())
        way = (((), "in"), *around * 20000, ((), "deed"))
        self.assertEqual(self.check_moment(lambda: flow.check(tree, question, ("path", way))), "path")


if __name__ == "__main__":
    unittest.main()
