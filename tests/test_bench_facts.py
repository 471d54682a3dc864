"""Tests of the facts about suppressions and benches over drawn rules, trees and edits, by a second way."""

import collections
import random
import unittest

from ruleengine.benches import Bench, Suppression, reported
from ruleengine.errors import NothingToUndo
from tests.drawn import SCHEMA, draw_tree
from tests.fixing import is_above, with_node
from tests.helpers import Case
from tests.second import finds
from tests.test_rule_facts import draw_rules, has_inside


def all_found(rules, tree):
    """The pairs of the names and paths of all findings, by the second way."""
    return [(rule.name, path) for path in tree.each_path() for rule in rules.rules
            if finds(SCHEMA, rule, tree, path)]


def is_hiding(suppression, name, path):
    """Tell if a suppression hides a finding."""
    return is_above(suppression.path, path) and name in (suppression.silences or (name,))


def second_report(found, suppressions):
    """What a report tells of the findings, by the second way."""
    shown, hidden = [], []
    firsts, used = set(), set()
    for name, path in found:
        spots = [spot for spot, one in enumerate(suppressions) if is_hiding(one, name, path)]
        used.update(spots)
        firsts.update(spots[:1])
        if spots:
            hidden.append((name, path, spots[0]))
        else:
            shown.append((name, path))
    unused = tuple(spot for spot in range(len(suppressions)) if spot not in used)
    spare = tuple(spot for spot in range(len(suppressions)) if spot in used and spot not in firsts)
    return shown, hidden, unused, spare


def told(report):
    hidden = [(one.rule, one.path, number) for one, number in report.hidden]
    return [(one.rule, one.path) for one in report.shown], hidden, report.unused, report.spare


def draw_suppression(rnd, rules, tree):
    """A suppression for a drawn path and some names."""
    names = [rnd.choice(rules.rules).name for _ in range(rnd.randrange(3))]
    return Suppression(rnd.choice(list(tree.each_path())), *names)


class ReportFactsTest(Case):

    def test_reports(self):
        rnd = random.Random(91)
        seen = collections.Counter()
        for _ in range(300):
            rules, tree = draw_rules(rnd), draw_tree(rnd, rnd.choice(("expr", "stmt")), 4)
            if len(tree) > 40:
                continue
            some = [draw_suppression(rnd, rules, tree) for _ in range(rnd.randrange(6))]
            report = reported(rules, tree, *some)
            wanted = second_report(all_found(rules, tree), some)
            self.assertEqual(told(report), wanted)
            for word, value in zip(("shown", "hidden", "unused", "spare"), wanted):
                seen[word] += len(value)
            # Without the unused and the spare ones the same is hidden.
            kept = [one for spot, one in enumerate(some) if spot not in report.unused + report.spare]
            again = reported(rules, tree, *kept)
            self.assertEqual([one for one, _ in again.hidden], [one for one, _ in report.hidden])
            self.assertEqual((again.shown, again.unused, again.spare), (report.shown, (), ()))
        self.assertGreater(min(seen.values()), 50)


class BenchFactsTest(Case):

    def check_bench(self, bench, tree, suppressions, effort):
        """Check all that can be read of a bench."""
        found = all_found(bench.rules, tree)
        self.assertEqual((bench.tree, list(bench.suppressions), bench.effort), (tree, suppressions, effort))
        self.assertEqual([(one.rule, one.path) for one in bench.findings], found)
        self.assertEqual(bench.findings, tuple(bench.rules.run(tree)))
        self.assertEqual(told(bench.report()), second_report(found, suppressions))

    def test_edits(self):
        rnd = random.Random(92)
        seen = collections.Counter()
        for _ in range(60):
            rules, tree = draw_rules(rnd), draw_tree(rnd, "stmt", 3)
            high = any(rule.condition is not None and has_inside(rule.condition) for rule in rules.rules)
            bench = Bench(rules, tree)
            states = [(tree, [], len(rules) * len(tree))]
            for _ in range(12):
                tree, some, _ = states[-1]
                self.check_bench(bench, *states[-1])
                kind = rnd.randrange(5)
                if kind == 0:
                    if len(states) == 1:
                        self.check_raises(NothingToUndo, {}, bench.undo)
                        continue
                    bench.undo()
                    states.pop()
                elif kind == 1:
                    one = draw_suppression(rnd, rules, tree)
                    bench.suppress(one.path, *one.silences)
                    states.append((tree, [*some, one], 0))
                else:
                    path = rnd.choice(list(tree.each_path()))
                    other = draw_tree(rnd, SCHEMA[tree[path].form].kin, rnd.choice((1, 2, 3)))
                    if len(tree) + len(other) > 40:
                        continue
                    after = with_node(tree, path, other)
                    bench.put(path, other)
                    kept = [one for one in some if one.path == path or not is_above(path, one.path)]
                    seen["taken"] += len(some) - len(kept)
                    states.append((after, kept, len(rules) * (len(after) if high else len(path) + len(other))))
                seen[kind, high] += 1
                self.assertEqual(list(bench.history()), [state[0] for state in states])
            while len(states) > 1:
                bench.undo()
                states.pop()
                self.check_bench(bench, *states[-1])
        self.assertGreater(min(seen.values()), 5)


if __name__ == "__main__":
    unittest.main()
