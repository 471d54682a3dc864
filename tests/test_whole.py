"""Tests of what holds where several parts of the program meet."""

import collections
import random
import unittest

from ruleengine.benches import Bench, Suppression, reported
from ruleengine.conditions import Has
from ruleengine.endings import all_crossings, decide_endings
from ruleengine.errors import InvalidTree, TooLong
from ruleengine.fixes import Fixer, innermost, outermost
from ruleengine.flows import Flow, Plan
from ruleengine.guards import FlowRules, Later, Reached
from ruleengine.patterns import do_meet
from ruleengine.rules import Rule, RuleSet
from ruleengine.trees import Like, Rest, Tree, Var, Word
from tests.drawn import draw_tree
from tests.ending import all_finals, draw_plain
from tests.fixing import draw_fixer
from tests.flowing import FLOW, SCHEMA, programs
from tests.guarding import draw_rules
from tests.helpers import Case
from tests.samples import make_schema
from tests.samples import SCHEMA as OTHER
from tests.test_ending_facts import draw_ground
from tests.test_rule_facts import draw_sharing_tree


class FlowTest(Case):

    def test_reached_places_and_suppressions_tell_the_same(self):
        seen = collections.Counter()
        for rnd, tree in programs(101, 300):
            rules, _ = draw_rules(rnd)
            guarded = FlowRules(rules, FLOW, {rule.name: Reached() for rule in rules.rules})
            some = [Suppression(path) for path in FLOW.unreached(tree)]
            report = reported(rules, tree, *some)
            self.assertEqual(list(guarded.run(tree)), list(report.shown))
            seen[bool(report.shown), bool(report.hidden)] += 1
            # On a bench, too, with each suppression an edit.
            bench = Bench(rules, tree)
            for one in some[:60]:
                bench.suppress(one.path)
            if len(some) <= 60:
                self.assertEqual(bench.report().shown, report.shown)
        self.assertGreater(seen[True, True], 50)

    def test_idle_sets_that_are_taken_away(self):
        rules = RuleSet(SCHEMA, Rule("idle", Like("Set", Word("n"), ())))
        guarded = FlowRules(rules, FLOW, {"idle": Reached() & -Later("n")})
        fixer = Fixer(rules, {"idle": Tree("Seq", ())})
        met = 0
        for _, tree in programs(102, 300):
            found = list(guarded.run(tree))
            leaves = [path for path in FLOW.idle_sets(tree) if not tree[path].children]
            self.assertEqual([one.path for one in found], leaves)
            after = fixer.fix_all(tree, *found)
            met += len(found)
            for one in found:
                self.assertEqual(after[one.path], Tree("Seq", ()))
            self.assertEqual(list(after.each_path()), list(tree.each_path()))
            self.assertEqual(list(FLOW.unset_uses(after)), list(FLOW.unset_uses(tree)))
            self.assertEqual(list(FLOW.unreached(after)), list(FLOW.unreached(tree)))
            rest = [path for path in FLOW.idle_sets(tree) if path not in leaves]
            self.assertEqual(list(FLOW.idle_sets(after)), rest)
            self.assertEqual(list(guarded.run(after)), [])
        self.assertGreater(met, 100)


class FixTest(Case):

    def test_fixes_one_by_one_on_a_bench(self):
        rnd = random.Random(103)
        seen = collections.Counter()
        while sum(seen.values()) < 120:
            fixer, tree = draw_fixer(rnd), draw_sharing_tree(rnd, 5)
            for order in ("outer", "inner"):
                try:
                    last, steps = fixer.finish(tree, order)
                except (TooLong, InvalidTree):
                    continue
                if len(steps) > Bench.MAX_EDITS:
                    continue
                bench = Bench(fixer.rules, tree)
                trees = [tree]
                for name, path in steps:
                    # The fix is one of the findings of the bench.
                    one = [found for found in bench.findings if (found.rule, found.path) == (name, path)][0]
                    trees.append(fixer.fix(bench.tree, one))
                    bench.put(path, trees[-1][path])
                    self.assertEqual(bench.tree, trees[-1])
                self.assertEqual(bench.tree, last)
                self.assertEqual([one for one in bench.findings if one.rule in fixer.fixable], [])
                self.assertEqual(list(bench.history()), trees)
                for _ in steps:
                    bench.undo()
                self.assertEqual((bench.tree, list(bench.findings)), (tree, list(fixer.rules.run(tree))))
                seen[len(steps) > 2] += 1
        self.assertGreater(min(seen.values()), 10)

    def test_innermost_and_outermost_findings_are_fixed_at_once(self):
        rnd = random.Random(104)
        met = 0
        for _ in range(150):
            fixer, tree = draw_fixer(rnd), draw_sharing_tree(rnd, 5)
            found = [one for one in fixer.rules.run(tree) if one.rule in fixer.fixable]
            for some in (innermost(found), outermost(found)):
                try:
                    after = fixer.fix_all(tree, *some)
                except InvalidTree:
                    continue
                now = tree
                for one in some:
                    now = fixer.fix(now, one)
                self.assertEqual(now, after)
                met += len(some) > 1
        self.assertGreater(met, 30)

    def test_rules_that_settle_and_shrink(self):
        rnd = random.Random(105)
        for _ in range(200):
            fixer, tree = draw_fixer(rnd, condition=False), draw_sharing_tree(rnd, 5)
            for one in fixer.rules.run(tree):
                if one.rule in fixer.fixable:
                    pattern, template = fixer.rules.pattern(one.rule), fixer.template(one.rule)
                    self.assertIs(fixer.settles(one.rule), not do_meet(pattern, template))
                    after = fixer.fix(tree, one)
                    if fixer.settles(one.rule):
                        self.assertNotIn((one.rule, one.path), [(new.rule, new.path) for new in fixer.rules.run(after)])
                    if fixer.shrinks(one.rule):
                        self.assertLess(len(after), len(tree))

    def test_one_final_tree_in_every_order(self):
        rnd = random.Random(106)
        seen = collections.Counter()
        for _ in range(200):
            fixer = draw_plain(rnd, rnd.choice((1, 2)), rnd.choice((2, 3)))
            word = decide_endings(fixer)[0]
            for _ in range(3):
                tree = draw_ground(rnd, 4)
                outer, inner = fixer.finish(tree, "outer")[0], fixer.finish(tree, "inner")[0]
                if word == "one":
                    self.assertEqual(outer, inner)
                else:
                    self.assertLessEqual({outer.text, inner.text}, all_finals(fixer, tree, 5000))
                seen[word, bool(all_crossings(fixer))] += 1
        self.assertGreater(min(seen.values()), 20)


class SharingTest(Case):

    def test_one_thing_in_several_places(self):
        # The same roots, conditions, rules, plans, guards and trees, walked through at the same time.
        root = Like("Call", Word("w"), (Var("x"), Rest("r")))
        condition = Has(Like("Num", Word("u")))
        rule = Rule("a", root, condition)
        sets = [RuleSet(OTHER, rule), RuleSet(make_schema(), rule, Rule("b", root))]
        fixers = [Fixer(rules, {"a": Like("Call", Word("w"), (Rest("r"),))}) for rules in sets]
        guard, plan = Reached() & -Later("w"), Plan(uses="value")
        guarded = [FlowRules(rules, Flow(rules.schema, {"Num": plan}), {"a": guard}) for rules in sets]
        leaf = Tree("Num", "f")
        tree = Tree("Call", "f", (Tree("Call", "f", (leaf, leaf)), leaf))
        benches = [Bench(rules, tree) for rules in sets]
        runs = [rules.run(tree) for rules in (*sets, *guarded)]
        found = [[] for _ in runs]
        for spot in (0, 1, 2, 3, 0, 1, 2, 3, 0, 1, 2, 3):
            for one in runs[spot]:
                found[spot].append((one.rule, one.path))
                break
        self.assertEqual(found[0], [("a", ()), ("a", (0,))])
        self.assertEqual(found[1], [("a", ()), ("b", ()), ("a", (0,))])
        # After the deed of the inner call a number is used, after that of the outer one none.
        self.assertEqual(found[2], [("a", ())])
        self.assertEqual(found[3], [("a", ()), ("b", ()), ("b", (0,))])
        benches[0].put((0,), leaf)
        self.assertEqual([len(bench.findings) for bench in benches], [1, 4])
        self.assertEqual([fixer.finish(tree)[0].text for fixer in fixers], ['Call("f", [])'] * 2)
        self.assertEqual(tree.text, 'Call("f", [Call("f", [Num("f"), Num("f")]), Num("f")])')
        self.assertEqual((rule.root, rule.condition, len(list(sets[0].run(tree)))), (root, condition, 2))

    def test_rules_that_only_a_bench_and_a_run_have_in_common(self):
        rnd = random.Random(107)
        for _ in range(40):
            fixer, tree = draw_fixer(rnd), draw_sharing_tree(rnd, 5)
            bench = Bench(fixer.rules, tree)
            for _ in range(5):
                path = rnd.choice(list(bench.tree.each_path()))
                before = list(fixer.rules.run(bench.tree))
                self.assertEqual(list(bench.findings), before)
                bench.put(path, draw_tree(rnd, "expr", 2))
            self.assertEqual(list(fixer.rules.run(tree)), list(Bench(fixer.rules, tree).findings))


if __name__ == "__main__":
    unittest.main()
