"""Tests of the facts about crossings and final trees over drawn plain sets, by a second way of finding them."""

import collections
import itertools
import random
import unittest

from ruleengine.endings import all_crossings, check_endings, decide_endings
from ruleengine.errors import InvalidAnswer, TooLarge
from ruleengine.trees import Tree
from tests.ending import all_finals, crossings, draw_plain, is_large, is_right, led
from tests.helpers import Case
from tests.second import all_terms, term


def draw_sets(seed, many, rules=(1, 2, 2, 3), levels=(3, 3, 4)):
    """Drawn plain sets of rules."""
    rnd = random.Random(seed)
    for _ in range(many):
        yield rnd, draw_plain(rnd, rnd.choice(rules), rnd.choice(levels))


def draw_ground(rnd, levels):
    """A tree of the forms that occur in plain sets."""
    kind = rnd.randrange(7) if levels > 1 else rnd.choice((0, 1))
    if kind == 0:
        return Tree("One")
    if kind == 1:
        return Tree("Num", rnd.choice("abc"))
    if kind < 5:
        return Tree("Neg", draw_ground(rnd, levels - 1))
    if kind == 5:
        return Tree("Add", draw_ground(rnd, levels - 1), draw_ground(rnd, levels - 1))
    return Tree("Call", "a", tuple(draw_ground(rnd, levels - 1) for _ in range(rnd.randrange(1, 3))))


class CrossingFactsTest(Case):

    def test_crossings(self):
        met = collections.Counter()
        for _, fixer in draw_sets(81, 400):
            wanted = crossings(fixer)
            found = [(one.outer_rule, one.inner_rule, one.path, term(one.crossed.root), term(one.first.root),
                      term(one.second.root)) for one in all_crossings(fixer)]
            self.assertEqual(found, wanted)
            for one in all_crossings(fixer):
                self.assertEqual([each.kin for each in (one.crossed, one.first, one.second)], ["expr"] * 3)
                self.assertIs(one.crossed.schema, fixer.rules.schema)
                met[one.outer_rule == one.inner_rule, one.path == (), len(one.path) > 1] += 1
        self.assertEqual(len(met), 5)
        self.assertGreater(min(met.values()), 10)

    def test_large_crossings(self):
        met = collections.Counter()
        for _, fixer in draw_sets(82, 150, (1, 1, 2), (6,)):
            wanted = crossings(fixer)
            large = any(is_large(one) for crossing in wanted for one in crossing[3:])
            met[large] += 1
            if large:
                self.check_raises(TooLarge, {"limit": 60}, lambda: all_crossings(fixer))
            else:
                self.assertEqual(len(all_crossings(fixer)), len(wanted))
        self.assertGreater(min(met.values()), 10)

    def test_trees(self):
        for _, fixer in draw_sets(83, 150):
            used = {what[1] for name in fixer.fixable for one in (fixer.rules.pattern(name), fixer.template(name))
                    for what in all_terms(term(one.root)) if what[0] == "text"}
            for one in all_crossings(fixer):
                crossed, first, second = one.trees
                self.assertEqual([type(tree) for tree in one.trees], [Tree] * 3)
                binding = one.crossed(crossed)
                texts = []
                for name, thing in binding.items():
                    if isinstance(thing, Tree):
                        self.assertEqual(thing.form, "raw_" + one.crossed.takes(name))
                        texts.append(thing.parts[0])
                    else:
                        texts.append(thing)
                self.assertEqual(len(set(texts)), len(texts))
                self.assertEqual(used & set(texts), set())
                for pattern, tree in ((one.first, first), (one.second, second)):
                    mine = pattern(tree)
                    self.assertEqual(mine, {name: binding[name] for name in pattern.variables})
                self.assertLessEqual(set(one.first.variables + one.second.variables), set(one.crossed.variables))
                names = ["x" + str(number + 1) for number in range(len(one.crossed.variables))]
                self.assertEqual(list(one.crossed.variables), names)
                # Both results are fixes of the crossed tree.
                self.assertEqual(led(fixer, crossed, [(one.outer_rule, ())]), first)
                self.assertEqual(led(fixer, crossed, [(one.inner_rule, one.path)]), second)


class EndingFactsTest(Case):

    def test_decisions(self):
        told = collections.Counter()
        for rnd, fixer in itertools.chain(draw_sets(84, 300, levels=(2, 2, 3)), draw_sets(86, 150)):
            trees = [one.trees for one in all_crossings(fixer)]
            answer = decide_endings(fixer)
            self.assertTrue(is_right(fixer, trees, answer))
            self.assertEqual(check_endings(fixer, answer), answer[0])
            joined = all(all_finals(fixer, first) == all_finals(fixer, second) and len(all_finals(fixer, first)) == 1
                         for _, first, second in trees)
            self.assertEqual(answer[0] == "one", joined)
            told[answer[0], bool(trees)] += 1
            if answer[0] == "one":
                for _ in range(6):
                    finals = all_finals(fixer, draw_ground(rnd, 4))
                    self.assertTrue(finals is None or len(finals) == 1)
            else:
                self.assertGreater(len(all_finals(fixer, answer[1])), 1)
        self.assertGreater(min(told["one", True], told["two", True]), 30)

    def test_other_answers(self):
        told = collections.Counter()
        for rnd, fixer in draw_sets(85, 250):
            trees = [one.trees for one in all_crossings(fixer)]
            answers = [decide_endings(fixer), ("one", tuple(((), ()) for _ in trees))]
            if trees:
                crossed, first, _ = rnd.choice(trees)
                steps = [draw_steps(rnd, fixer, tree) for tree in (crossed, crossed, first, first)]
                answers.append(("two", crossed, steps[0], steps[1]))
                answers.append(("one", ((steps[2], steps[3]),) * len(trees)))
            ground = draw_ground(rnd, 4)
            answers.append(("two", ground, draw_steps(rnd, fixer, ground), draw_steps(rnd, fixer, ground)))
            for answer in answers:
                wanted = is_right(fixer, trees, answer)
                try:
                    found = check_endings(fixer, answer) == answer[0]
                except InvalidAnswer as error:
                    self.assertEqual(error.part, answer[0])
                    found = False
                self.assertEqual(found, wanted)
                told[answer[0], wanted] += 1
        self.assertEqual(len(told), 4)
        self.assertGreater(min(told.values()), 30)


def draw_steps(rnd, fixer, tree):
    """Drawn fixes from a tree, mostly until it is final; sometimes with one that is none."""
    steps = []
    while True:
        found = [one for one in fixer.rules.run(tree)]
        if not found or rnd.randrange(12) == 0:
            break
        one = rnd.choice(found)
        steps.append((one.rule, one.path))
        tree = fixer.fix(tree, one)
    if rnd.randrange(8) == 0:
        steps.append((rnd.choice(fixer.fixable), rnd.choice(list(tree.each_path()))))
    return tuple(steps)


if __name__ == "__main__":
    unittest.main()
