"""Tests that calls of guards, fixers, endings and benches end in a moment at the limits that the document names."""

import unittest

from ruleengine.benches import Bench, Suppression, reported
from ruleengine.conditions import Has, Inside
from ruleengine.endings import all_crossings, check_endings, decide_endings
from ruleengine.errors import InvalidAnswer, Overlap, TooLong
from ruleengine.fixes import Fixer, innermost, outermost
from ruleengine.flows import Flow, Plan
from ruleengine.forms import Form, Schema
from ruleengine.guards import FlowRules, Later, Reached, Unset
from ruleengine.rules import Rule, RuleSet
from ruleengine.trees import Like, Rest, Tree, Var, Word
from tests.test_limits import SCHEMA, X, Y, LimitCase, comb_tree, deep_tree, named, row

FLOW_SCHEMA = Schema(
    Form("Seq", "s", items="s*"), Form("Loop", "s", items="s*"), Form("Any", "s", items="s*"),
    Form("Set", "s", word="text"), Form("Use", "s", word="text"), Form("Five", "s", a="text", b="text", c="text"))
FLOW = Flow(FLOW_SCHEMA, {"Loop": Plan("loop"), "Any": Plan("choice"), "Set": Plan(sets="word"),
                          "Use": Plan(uses="word"), "Five": Plan(sets="a")})


def neg(node):
    return Like("Neg", node)


def num(text):
    return Like("Num", text)


def joined(leaves, many):
    """A guard of so many parts, one below the other."""
    guard = leaves[0]
    for number in range(1, many):
        leaf = leaves[number % len(leaves)]
        guard = (guard & leaf, guard | leaf, -guard & leaf, leaf | guard)[number % 4]
    return guard


def programs():
    """Programs of about 400 nodes and 100 levels."""
    for many in (1, 100):
        leaves = []
        for number in range(100):
            word = str(number % many)
            leaves += [Tree("Set", word), Tree("Use", word), Tree("Five", word, str(number), "1")]
        for top in ("Seq", "Loop", "Any"):
            tree = Tree(top, tuple(leaves))
            for number in range(98):
                tree = Tree("Loop" if number % 2 else "Seq", (tree,))
            yield tree


class GuardLimitTest(LimitCase):

    def test_guards_of_100_parts(self):
        leaves = [Reached(), Unset("n"), Later("n"), -Later("n"), -Unset("n")]
        five = [Unset("a"), Later("b"), Later("c"), -Unset("b"), Later("a"), Unset("c")]
        rules, guards = [], {}
        for number in range(12):
            name = "r" + str(number)
            if number % 2:
                rules.append(Rule(name, Like(("Set", "Use")[number // 2 % 2], Word("n"))))
                guards[name] = joined(leaves[number % 5:] + leaves[:number % 5], 100)
            else:
                rules.append(Rule(name, Like("Five", Word("a"), Word("b"), Word("c"))))
                guards[name] = joined(five[number // 2 % 6:] + five[:number // 2 % 6], 100)
        found = 0
        for tree in programs():
            guarded = FlowRules(RuleSet(FLOW_SCHEMA, *rules), FLOW, guards)
            found += len(self.check_moment(lambda: list(guarded.run(tree))))
            for name, spot in (("r1", 297), ("r3", 298), ("r2", 299)):
                path = (0,) * 98 + (spot,)
                answer = self.check_moment(lambda: guarded.judge(name, tree, path))
                self.assertEqual(self.check_moment(lambda: guarded.check(name, tree, path, answer)), answer[0])
        self.assertGreater(found, 100)

    def test_guards_that_are_nested_deeply(self):
        guard = Unset("n")
        for _ in range(280):
            guard = -guard
        rules = FlowRules(RuleSet(FLOW_SCHEMA, Rule("a", Like("Use", Word("n")))), FLOW, {"a": guard})
        tree = Tree("Seq", (Tree("Set", "a"), Tree("Use", "a"), Tree("Use", "b")))
        self.assertEqual([one.path for one in rules.run(tree)], [(2,)])
        for path in ((1,), (2,)):
            answer = rules.judge("a", tree, path)
            self.assertEqual(rules.check("a", tree, path, answer), answer[0])


class FixLimitTest(LimitCase):

    def check_long(self, rules, trees, is_long=True):
        """Check the fixes of rules, which are triples of roots, conditions and templates, in both orders."""
        made = RuleSet(SCHEMA, *[Rule("r" + str(at), root, where) for at, (root, where, _) in enumerate(rules)])
        fixer = Fixer(made, {"r" + str(at): template for at, (_, _, template) in enumerate(rules)})
        for tree in trees:
            for order in ("outer", "inner"):
                if is_long:
                    self.check_raises(TooLong, {"limit": 400},
                                      lambda: self.check_moment(lambda: fixer.finish(tree, order)))
                else:
                    self.check_moment(lambda: fixer.finish(tree, order))

    def test_400_fixes(self):
        trees = [deep_tree(), comb_tree()]
        turns = [(num(str(at)), None, num(str((at + 1) % 12))) for at in range(12)]
        self.check_long(turns, trees)
        flips = [(neg(X), None, Like("Row", (X,))), (Like("Row", (X,)), None, neg(X))]
        self.check_long(flips, trees[:1])

    def test_400_fixes_with_conditions(self):
        low = [(num(str(at)), Has(neg(Y)) | -Has(row(Y)), num(str((at + 1) % 12))) for at in range(12)]
        self.check_long(low, [deep_tree()])
        high = [(num(str(at)), Inside(row(Y, Rest("r"))) & -Inside(num("7")), num(str((at + 1) % 12)))
                for at in range(12)]
        self.check_long(high, [comb_tree()])
        both = [(neg(X), Has(Y, Inside(neg(Var("z"))), sort="e") | Has(num(str(at))), Like("Five", X, X, X, X, X))
                for at in range(12)]
        self.check_long(both, [Tree("Neg", Tree("Neg", Tree("Num", "1")))], False)

    def test_large_patterns(self):
        wide = [row(*named(Var, 57), num(str(at))) for at in range(12)]
        rules = [(one, None, row(*named(Var, 57)[::-1], num(str((at + 1) % 12)))) for at, one in enumerate(wide)]
        tree = Tree("Row", tuple(Tree("Num", str(at)) for at in range(57)) + (Tree("Num", "1"),))
        for _ in range(90):
            tree = Tree("Neg", tree)
        self.check_long(rules, [tree])

    def test_long_texts(self):
        tree = Tree("Row", tuple(Tree("Texts", *["\\" * 60] * 5) for _ in range(290)))
        for _ in range(98):
            tree = Tree("Neg", tree)
        self.check_long([(neg(X), None, Like("Row", (X,))), (Like("Row", (X,)), None, neg(X))], [tree])

    def test_many_findings(self):
        rules = RuleSet(SCHEMA, *[Rule("r" + str(at), X, sort="e") for at in range(12)])
        fixer = Fixer(rules, {"r" + str(at): X for at in range(12)})
        for tree, many in ((deep_tree(), 301), (comb_tree(), 298)):
            found = list(rules.run(tree))
            self.assertEqual(len(found), 12 * len(tree))
            low = self.check_moment(lambda: innermost(found))
            self.assertEqual(len(low), many)
            self.assertEqual(self.check_moment(lambda: outermost(found)), found[:1])
            self.assertEqual(self.check_moment(lambda: fixer.fix_all(tree, *low)), tree)
            self.check_raises(Overlap, {"one": many - 1, "other": many}, lambda: self.check_moment(
                lambda: fixer.fix_all(tree, *low, *[low[-1]] * 4000)))


class EndingLimitTest(LimitCase):

    def check_crossings(self, rows, many, word):
        """Check the crossings of rules, which are pairs of roots and templates."""
        rules = RuleSet(SCHEMA, *[Rule("r" + str(at), root) for at, (root, _) in enumerate(rows)])
        fixer = Fixer(rules, {"r" + str(at): template for at, (_, template) in enumerate(rows)})
        self.assertEqual(len(self.check_moment(lambda: all_crossings(fixer))), many)
        answer = self.check_moment(lambda: decide_endings(fixer))
        self.assertEqual(answer[0], word)
        self.assertEqual(self.check_moment(lambda: check_endings(fixer, answer)), word)
        return fixer

    def test_many_crossings(self):
        small = [(neg(neg(X)), neg(X)), (neg(neg(neg(X))), neg(X)), (neg(Like("Add", X, X)), neg(X))]
        large = [(row(*[neg(one) for one in named(Var, 27)], num(str(at))), Tree("Num", "a")) for at in range(9)]
        fixer = self.check_crossings(small + large, 738, "one")
        rows = decide_endings(fixer)[1]
        self.check_raises(InvalidAnswer, {"part": "one"}, lambda: self.check_moment(
            lambda: check_endings(fixer, ("one", (*rows[:-1], ((("r0", ()),), ()))))))

    def test_crossings_that_lead_to_two_trees(self):
        small = [(neg(num(str(at))), num(str(at))) for at in range(6)]
        large = [(row(*[neg(one) for one in named(Var, 28)], num(str(at))), row(*named(Var, 28), num(str(at))))
                 for at in range(6)]
        self.check_crossings(small + large, 1008, "two")

    def test_large_patterns_at_one_place(self):
        texts = [Like("Texts", *named(Word, 5, "w" + str(at) + "_")) for at in range(57)]
        self.check_crossings([(row(*texts, num(Word("q"))), num(str(at))) for at in range(12)], 66, "two")

    def test_nodes_that_are_fixed_one_after_the_other(self):
        def full(levels):
            return X if levels == 1 else Like("Add", full(levels - 1), full(levels - 1))
        self.check_crossings([(Like("Add", X, X), X), (row(full(5), full(4)), num("a"))], 22, "two")
        self.check_crossings([(Like("Add", X, X), X), (row(full(5), full(4), num("a")), X)], 22, "two")


class BenchLimitTest(LimitCase):

    def test_60_edits(self):
        conditions = [None, Has(num(Word("w"))), -Inside(Like("Row", (Rest("r"),))), Has(Y, Inside(neg(Y)), sort="e")]
        for tree in (deep_tree(), comb_tree()):
            for given in ([None], conditions):
                rules = RuleSet(SCHEMA, *[Rule("r" + str(at), X, given[at % len(given)], sort="e") for at in range(12)])
                self.check_moment(lambda: self.edit(rules, tree))

    def edit(self, rules, tree):
        """Edit a tree 60 times, and undo all."""
        bench = Bench(rules, tree)
        findings = bench.findings
        paths = list(tree.each_path())
        for number in range(60):
            if number % 3:
                bench.put(paths[-1 - number], Tree("Num", str(number)) if number % 2 else Tree("Row", ()))
            else:
                bench.suppress(paths[number * 5], *["r" + str(number % 12)] * (number % 2))
            bench.report()
        self.assertEqual(bench.findings, tuple(rules.run(bench.tree)))
        for _ in range(60):
            bench.undo()
        self.assertEqual((bench.tree, bench.findings), (tree, findings))

    def test_many_suppressions(self):
        rules = RuleSet(SCHEMA, *[Rule("r" + str(at), X, sort="e") for at in range(12)])
        tree = deep_tree()
        some = [Suppression(path, "r" + str(at)) for path in tree.each_path() for at in range(12)][::-1]
        report = self.check_moment(lambda: reported(rules, tree, *some))
        self.assertEqual((report.shown, len(report.hidden), report.unused, report.spare), ((), 12 * len(tree), (), ()))


if __name__ == "__main__":
    unittest.main()
