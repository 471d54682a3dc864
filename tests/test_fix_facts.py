"""Tests of the facts about fixes over drawn rules, templates and trees, by the second way of making them."""

import collections
import itertools
import random
import unittest

from ruleengine.errors import InvalidTree, Overlap, TooLong
from ruleengine.fixes import MAX_FIXES, do_overlap, innermost, outermost
from ruleengine.trees import Like, Rest, Tree, Var, Word
from tests.drawn import SCHEMA, draw_fitting
from tests.fixing import draw_fixer, finished, fixed_node, found_pairs, is_above, is_fitting, with_node
from tests.helpers import Case
from tests.second import unified, renamed, term
from tests.test_rule_facts import draw_sharing_tree


def draw_cases(seed, many, least=4):
    """Drawn fixers, each with a tree."""
    rnd = random.Random(seed)
    while many > 0:
        fixer, tree = draw_fixer(rnd), draw_sharing_tree(rnd, 6)
        if least <= len(tree) <= 40:
            many -= 1
            yield rnd, fixer, tree


def findings(fixer, tree):
    """The findings of rules with templates."""
    return [one for one in fixer.rules.run(tree) if one.rule in fixer.fixable]


class FixFactsTest(Case):

    def test_single_fixes(self):
        met = 0
        for _, fixer, tree in draw_cases(71, 200):
            found = findings(fixer, tree)
            self.assertEqual([(one.path, one.rule) for one in found], found_pairs(fixer, tree))
            for one in found:
                wanted = with_node(tree, one.path, fixed_node(fixer, one.rule, tree[one.path]))
                self.assertEqual(fixer.fix(tree, one), wanted)
                met += 1
        self.assertGreater(met, 500)

    def test_any_order_gives_the_same(self):
        sizes = collections.Counter()
        for rnd, fixer, tree in draw_cases(72, 300, 8):
            found = findings(fixer, tree)
            rnd.shuffle(found)
            apart = []
            for one in found:
                if not any(is_above(one.path, other.path) or is_above(other.path, one.path) for other in apart):
                    apart.append(one)
            apart = apart[:4]
            results = set()
            for order in itertools.permutations(apart):
                now = tree
                for one in order:
                    now = with_node(now, one.path, fixed_node(fixer, one.rule, tree[one.path]))
                results.add(now.text)
                results.add(fixer.fix_all(tree, *order).text)
            self.assertEqual(len(results), 1)
            sizes[len(apart)] += 1
        self.assertGreater(min(sizes[2], sizes[3] + sizes[4]), 30)

    def test_overlaps(self):
        met = collections.Counter()
        for rnd, fixer, tree in draw_cases(73, 200):
            found = findings(fixer, tree)
            some = [rnd.choice(found) for _ in range(rnd.randrange(2, 5))] if found else []
            pairs = [(one, other) for one, other in itertools.combinations(range(len(some)), 2)
                     if is_above(some[one].path, some[other].path) or is_above(some[other].path, some[one].path)]
            for one, other in itertools.combinations(range(len(some)), 2):
                self.assertIs(do_overlap(some[one], some[other]), (one, other) in pairs)
            met[bool(pairs)] += 1
            if pairs:
                one, other = min(pairs)
                self.check_raises(Overlap, {"one": one, "other": other}, lambda: fixer.fix_all(tree, *some))
            else:
                fixer.fix_all(tree, *some)
        self.assertGreater(min(met.values()), 30)

    def test_innermost_and_outermost(self):
        for rnd, fixer, tree in draw_cases(74, 200):
            found = list(fixer.rules.run(tree))
            rnd.shuffle(found)
            for kind, is_wrong in (
                    (innermost, lambda one, other: is_above(one.path, other.path) and one.path != other.path),
                    (outermost, lambda one, other: is_above(other.path, one.path) and one.path != other.path)):
                kept = [one for spot, one in enumerate(found)
                        if not any(is_wrong(one, other) for other in found)
                        and one.path not in [other.path for other in found[:spot]]]
                self.assertEqual(kind(found), kept)
                self.assertFalse(any(do_overlap(*pair) for pair in itertools.combinations(kept, 2)))

    def test_no_set_without_overlaps_has_more_than_the_innermost_ones(self):
        met = 0
        for _, fixer, tree in draw_cases(75, 150):
            found = list(fixer.rules.run(tree))
            paths = sorted({one.path for one in found})
            if not 2 <= len(paths) <= 9:
                continue
            met += 1
            most = max(len(some) for size in range(len(paths) + 1) for some in itertools.combinations(paths, size)
                       if not any(is_above(*pair) for pair in itertools.permutations(some, 2)))
            self.assertEqual(len(innermost(found)), most)
        self.assertGreater(met, 50)


class RuleFactsTest(Case):

    def test_settling_rules(self):
        told = collections.Counter()
        for rnd, fixer, _ in draw_cases(76, 400, 1):
            for name in fixer.fixable:
                pattern, template = fixer.rules.pattern(name), fixer.template(name)
                meets = not isinstance(unified(renamed(term(pattern.root), "a_"),
                                               renamed(term(template.root), "b_")), str)
                self.assertIs(fixer.settles(name), not meets)
                told[meets] += 1
                for _ in range(3):
                    if fixer.settles(name):
                        tree = draw_fitting(rnd, pattern)
                        self.assertFalse(is_fitting(pattern, fixed_node(fixer, name, tree)))
        self.assertGreater(min(told.values()), 100)

    def test_shrinking_rules(self):
        told = collections.Counter()
        for rnd, fixer, _ in draw_cases(77, 400, 1):
            for name in fixer.fixable:
                pattern, template = fixer.rules.pattern(name), fixer.template(name)
                counts = [count_all(one.root) for one in (pattern, template)]
                shrinks = counts[0]["forms"] > counts[1]["forms"] and not any(
                    counts[1][name_of] > counts[0][name_of] for name_of in template.variables
                    if template.takes(name_of) != "text")
                self.assertIs(fixer.shrinks(name), shrinks)
                told[shrinks] += 1
                for _ in range(3):
                    tree = draw_fitting(rnd, pattern, 3)
                    if shrinks:
                        self.assertLess(len(fixed_node(fixer, name, tree)), len(tree))
        self.assertGreater(min(told.values()), 100)


def count_all(part):
    """How often forms, and each variable, occur in a part of a pattern."""
    counts = collections.Counter()
    if isinstance(part, (Var, Word, Rest)):
        counts[part.name] += 1
    elif isinstance(part, tuple):
        for item in part:
            counts.update(count_all(item))
    elif isinstance(part, (Like, Tree)):
        counts["forms"] += 1
        for inner in part.parts:
            counts.update(count_all(inner))
    return counts


class FinishFactsTest(Case):

    def test_finish(self):
        told = collections.Counter()
        for _, fixer, tree in draw_cases(78, 200):
            for order in ("outer", "inner"):
                wanted = finished(fixer, tree, order, 10)
                if isinstance(wanted, tuple):
                    self.assertEqual(fixer.finish(tree, order), wanted)
                    self.assertEqual(found_pairs(fixer, wanted[0]), [])
                    told["fixed" if wanted[1] else "final"] += 1
                else:
                    # Far from the end after so few fixes, most of them have none.
                    told[wanted] += 1
                    try:
                        last, steps = fixer.finish(tree, order)
                        self.assertGreater(len(steps), 10)
                        self.assertEqual(found_pairs(fixer, last), [])
                    except (TooLong, InvalidTree) as error:
                        if isinstance(error, TooLong):
                            self.assertEqual(error.limit, MAX_FIXES)
        self.assertGreater(min(told["fixed"], told["final"], told["long"]), 30)

    def test_long_ways(self):
        # The trees on a way have most in common with each other; rules that shrink lead to an end.
        told = collections.Counter()
        for _, fixer, tree in draw_cases(79, 300, 15):
            if all(fixer.shrinks(name) for name in fixer.fixable):
                for order in ("outer", "inner"):
                    wanted = finished(fixer, tree, order, len(tree))
                    self.assertEqual(fixer.finish(tree, order), wanted)
                    told[order] += len(wanted[1]) > 3
        self.assertGreater(min(told.values()), 5)


if __name__ == "__main__":
    unittest.main()
