"""Tests of the facts about patterns over drawn patterns and trees, by the second way of finding them."""

import collections
import itertools
import random
import unittest

from ruleengine.errors import NoCommon, TooLarge
from ruleengine.patterns import Pattern, check_cover, covers, do_meet, learned, mismatch
from tests import second
from tests.drawn import (
    SCHEMA, TEXTS, draw_fitting, draw_node, draw_pattern, draw_special, draw_sum, draw_tree, put_in)
from tests.helpers import Case


def pairs(seed, many):
    """Drawn pairs of patterns of the same sort, half of them related."""
    rnd = random.Random(seed)
    for number in range(many):
        sort = rnd.choice(("expr", "expr", "stmt"))
        if number % 3 == 0:
            names = rnd.choice((("x",), ("x", "y")))
            yield rnd, Pattern(SCHEMA, draw_sum(rnd, 3, names), "expr"), Pattern(SCHEMA, draw_sum(rnd, 3, names),
                                                                                 "expr")
        else:
            one = draw_pattern(rnd, sort)
            other = draw_special(rnd, one) if rnd.randrange(2) else draw_pattern(rnd, sort)
            yield (rnd, one, other) if rnd.randrange(2) else (rnd, other, one)


class FitTest(Case):

    def test_bindings_and_first_mismatches(self):
        told = collections.Counter()
        for rnd, one, other in pairs(1, 400):
            trees = [draw_tree(rnd, one.kin), draw_fitting(rnd, one), draw_fitting(rnd, other), draw_tree(rnd, "stmt")]
            for tree in trees:
                found = second.fits_under(SCHEMA, one.root, one.kin, tree, {})
                binding = one(tree)
                first = mismatch(one, tree)
                self.assertEqual(tree in one, found is not None)
                self.assertEqual(first, second.first_mismatch(SCHEMA, one.root, one.kin, tree, {}))
                if found is None:
                    self.assertIsNone(binding)
                    told[first[2]] += 1
                else:
                    self.assertEqual({name: second.term(what) for name, what in binding.items()}, found)
                    self.assertEqual(set(binding), set(one.variables))
                    self.assertEqual(put_in(one.root, binding), tree)
                    told["fits"] += 1
        self.assertEqual(set(told), {"fits", "form", "text", "length", "equal"})

    def test_a_tree_fits_in_at_most_one_way(self):
        rnd = random.Random(2)
        for _ in range(60):
            names = {"text": ("u",), "expr": ("x", "y"), "expr*": ("r",), "stmt": ("s",), "stmt*": ("m",)}
            pattern = Pattern(SCHEMA, draw_node(rnd, "expr", 3, names), "expr")
            if len(pattern.variables) > 2:
                continue
            tree = rnd.choice((draw_tree(rnd, "expr", 3), draw_fitting(rnd, pattern)))
            nodes = {node.text: node for node in (tree[path] for path in tree.each_path())}
            rows = {()}
            for node in nodes.values():
                for part in node.parts:
                    if isinstance(part, tuple):
                        rows.update(tuple(item.text for item in part[start:]) for start in range(len(part) + 1))
            things = {"text": TEXTS, "expr": list(nodes.values()), "stmt": list(nodes.values())}
            rests = [tuple(nodes[text] for text in row) for row in sorted(rows)]
            choices = [rests if takes.endswith("*") else things[takes] for takes in pattern.all_taken().values()]
            ways = []
            for choice in itertools.product(*choices):
                values = dict(zip(pattern.variables, choice))
                if len(put_in(pattern.root, values)) == len(tree) and put_in(pattern.root, values) == tree:
                    ways.append(values)
            binding = pattern(tree)
            self.assertEqual(ways, [] if binding is None else [binding])


class OrderTest(Case):

    def test_instances(self):
        told = collections.Counter()
        for rnd, one, other in pairs(3, 500):
            is_instance = second.match(second.term(other.root), second.term(one.root), {}) is not None
            told[is_instance] += 1
            self.assertEqual(one <= other, is_instance)
            self.assertEqual(one < other, is_instance and one != other)
            # One of the listed trees shows that it is no instance, so all of them fit if it is one.
            trees = second.witnesses(SCHEMA, one, other)
            self.assertTrue(all(tree in one for tree in trees))
            self.assertEqual(all(tree in other for tree in trees), is_instance)
            if is_instance:
                for _ in range(3):
                    self.assertIn(draw_fitting(rnd, one), other)
        self.assertGreater(min(told[True], told[False]), 100)

    def test_covers(self):
        told = collections.Counter()
        for _, one, other in pairs(4, 400):
            word, value = covers(one, other)
            told[word] += 1
            self.assertEqual(word, "instance" if one <= other else "tree")
            self.assertEqual(check_cover(one, other, (word, value)), word)
            if word == "instance":
                self.assertEqual(set(value), set(other.variables))
                values = {name: second.term(what) for name, what in value.items()}
                terms = {what: values[what[1]] for what in second.variables(second.term(other.root))}
                self.assertEqual(second.filled(second.term(other.root), terms), second.term(one.root))
            else:
                self.assertTrue(value in one and value not in other)
        self.assertGreater(min(told["tree"], told["instance"]), 100)

    def test_equality_is_the_order_in_both_directions(self):
        for _, one, other in pairs(5, 400):
            is_same = second.canonical(second.term(one.root)) == second.canonical(second.term(other.root))
            self.assertEqual(one == other, is_same)
            self.assertEqual(one <= other and other <= one, is_same)

    def test_the_order_is_transitive(self):
        rnd = random.Random(6)
        for _ in range(100):
            top = draw_pattern(rnd, "expr", 2)
            middle = draw_special(rnd, top)
            bottom = draw_special(rnd, middle)
            self.assertTrue(bottom <= middle <= top and bottom <= top)


class CommonTest(Case):

    def test_greatest_common_instances(self):
        told = collections.Counter()
        for rnd, one, other in pairs(7, 800):
            wanted = second.common(one, other)
            self.assertEqual(do_meet(one, other), not isinstance(wanted, str))
            try:
                found = one & other
            except NoCommon as error:
                told[error.reason] += 1
                self.assertIsInstance(wanted, str)
                # A tree that fits the one does not fit the other one.
                self.assertNotIn(draw_fitting(rnd, one), other)
                self.assertNotIn(draw_fitting(rnd, other), one)
                continue
            told["found"] += 1
            self.assertEqual(second.term(found.root), wanted)
            self.assertTrue(found <= one and found <= other)
            special = draw_special(rnd, found)
            self.assertTrue(special <= one and special <= other and special <= found)
            for tree in (draw_fitting(rnd, found), draw_fitting(rnd, one), draw_fitting(rnd, other)):
                self.assertEqual(tree in found, tree in one and tree in other)
        self.assertGreater(min(told["found"], told["clash"], told["ring"]), 20)

    def test_every_common_instance_is_an_instance_of_the_greatest_one(self):
        met = 0
        for rnd, one, other in pairs(8, 500):
            special = draw_special(rnd, one)
            if special <= other:
                met += 1
                self.assertTrue(special <= (one & other))
        self.assertGreater(met, 50)

    def test_least_common_generalizations(self):
        for rnd, one, other in pairs(9, 500):
            found = one | other
            self.assertEqual(second.term(found.root),
                             second.generalized([second.term(one.root), second.term(other.root)]))
            self.assertTrue(one <= found and other <= found)

    def test_the_generalization_is_an_instance_of_every_other_one(self):
        rnd = random.Random(10)
        for _ in range(200):
            wide = draw_pattern(rnd, "expr")
            one, other = draw_special(rnd, wide), draw_special(rnd, wide)
            self.assertTrue((one | other) <= wide)
            self.assertTrue((one | one) == one)


class LearnedTest(Case):

    def test_learned_patterns(self):
        told = collections.Counter()
        for rnd, wide, other in pairs(11, 300):
            good = [draw_fitting(rnd, wide) for _ in range(rnd.randrange(1, 5))]
            bad = [draw_fitting(rnd, rnd.choice((wide, other))) for _ in range(rnd.randrange(4))]
            least = second.generalized([second.term(tree) for tree in good])
            fitting = [number for number,
                       tree in enumerate(bad) if second.match(least, second.term(tree), {}) is not None]
            try:
                word, found = learned(SCHEMA, good, bad)
            except TooLarge:
                self.assertEqual(fitting, [])
                self.assertTrue(len(good[0]) > 60 or good[0].levels > 8)
                continue
            told[word] += 1
            if word == "tree":
                self.assertEqual(found, fitting[0])
                # What fits the least pattern fits every pattern that all the good ones fit.
                self.assertIn(bad[found], wide)
            else:
                self.assertEqual(fitting, [])
                self.assertEqual(second.term(found.root), least)
                self.assertTrue(found <= wide)
        self.assertGreater(min(told["tree"], told["pattern"]), 30)


if __name__ == "__main__":
    unittest.main()
