"""Tests of the facts about conditions and rules over drawn ones, by the second way of finding them."""

import collections
import random
import unittest

from ruleengine.conditions import Has, Inside
from ruleengine.errors import InvalidAnswer, InvalidPart, InvalidPath, InvalidRule
from ruleengine.patterns import do_meet
from ruleengine.rules import Rule, RuleSet
from ruleengine.trees import Like, Rest, Tree, Var, Word
from tests import second
from tests.drawn import SCHEMA, draw_condition, draw_node, draw_tree
from tests.helpers import Case
from tests.samples import neg, num


def draw_rule(rnd, name):
    """A rule with a condition, or without one."""
    sort = rnd.choice(("expr", "expr", "stmt"))
    condition = draw_condition(rnd) if rnd.randrange(5) else None
    return Rule(name, draw_node(rnd, sort, rnd.choice((1, 2, 3))), condition, sort=sort)


def draw_rules(rnd, many=3):
    """A set of drawn rules; those that are not right are drawn again."""
    while True:
        try:
            return RuleSet(SCHEMA, *[draw_rule(rnd, "r" + str(number)) for number in range(many)])
        except (InvalidPart, InvalidRule):
            pass


def draw_sharing_root(rnd):
    """A small root whose variables are those of others, too."""
    x, y, u = Var("x"), Var("y"), Word("u")
    return rnd.choice((x, y, Like("Num", u), Like("Neg", x), Like("Neg", y), Like("Neg", Like("Num", u)),
                       Like("Add", x, y),
                       Like("Add", y, x), Like("Add", x, Like("Num", u)), Like("Call", u, (x, Rest("r")))))


def draw_sharing_condition(rnd, nesting):
    """A condition whose roots share variables."""
    if rnd.randrange(4) == 0:
        one, other = draw_sharing_condition(rnd, nesting), draw_sharing_condition(rnd, nesting)
        return rnd.choice((-one, one & other, one | other, -one & other))
    where = draw_sharing_condition(rnd, nesting - 1) if nesting > 1 else None
    return rnd.choice((Has, Inside))(draw_sharing_root(rnd), where, sort="expr")


def draw_sharing_rule(rnd, name):
    """A rule whose conditions share variables with its pattern and with each other."""
    return Rule(name, draw_sharing_root(rnd), draw_sharing_condition(rnd, 2), sort="expr")


def draw_sharing_tree(rnd, levels=5):
    """A tree in which the same things occur often."""
    if levels <= 1 or rnd.randrange(5) == 0:
        return num(rnd.choice("ab"))
    if rnd.randrange(2):
        return neg(draw_sharing_tree(rnd, levels - 1))
    if rnd.randrange(4) == 0:
        return Tree("Call", rnd.choice("ab"), (draw_sharing_tree(rnd, levels - 1),))
    return Tree("Add", draw_sharing_tree(rnd, levels - 1), draw_sharing_tree(rnd, levels - 2))


def draw_cases(seed, many):
    """Drawn sets of rules, each with a tree."""
    rnd = random.Random(seed)
    while many > 0:
        rules, tree = draw_rules(rnd), draw_tree(rnd, rnd.choice(("expr", "stmt")), rnd.choice((3, 4, 5)))
        if 3 <= len(tree) <= 40:
            many -= 1
            yield rnd, rules, tree


def is_right(rule, tree, path, answer):
    """Tell if an answer is a correct one, by the second way."""
    found = second.fits_under(SCHEMA, rule.root, rule.kin, tree[path], {})
    try:
        if answer[0] == "not":
            word, reason = answer[1]
            if found is None:
                first = second.first_mismatch(SCHEMA, rule.root, rule.kin, tree[path], {})
                return (word, reason) == ("mismatch", first)
            if word != "condition" or rule.condition is None:
                return False
            return second.is_proof(SCHEMA, rule.condition, tree, path, found, False, reason)
        if found is None or {name: second.term(what) for name, what in answer[1].items()} != found:
            return False
        if rule.condition is None:
            return answer[2] is None
        return second.is_proof(SCHEMA, rule.condition, tree, path, found, True, answer[2])
    except (IndexError, TypeError, ValueError, AttributeError, InvalidPath):
        # An answer for another condition need not have the form of one for this.
        return False


def has_inside(condition):
    """Tell if an Inside occurs in a condition."""
    return isinstance(condition, Inside) or any(has_inside(inner) for inner in condition.inner)


class RunTest(Case):

    def test_findings(self):
        told = collections.Counter()
        for _, rules, tree in draw_cases(21, 500):
            found = [(finding.path, finding.rule) for finding in rules.run(tree)]
            wanted = [(path, rule.name) for path in tree.each_path() for rule in rules.rules
                      if second.finds(SCHEMA, rule, tree, path)]
            self.assertEqual(found, wanted)
            for finding in rules.run(tree):
                self.assertEqual(finding.binding, rules.pattern(finding.rule)(tree[finding.path]))
            told[bool(wanted)] += 1
        self.assertGreater(min(told[True], told[False]), 20)

    def test_rules_that_share_variables_with_deep_conditions(self):
        rnd = random.Random(22)
        told = collections.Counter()
        for _ in range(600):
            rules = RuleSet(SCHEMA, *[draw_sharing_rule(rnd, "r" + str(number)) for number in range(3)])
            tree = draw_sharing_tree(rnd)
            found = [(finding.path, finding.rule) for finding in rules.run(tree)]
            for path in tree.each_path():
                for rule in rules.rules:
                    wanted = second.finds(SCHEMA, rule, tree, path)
                    self.assertEqual((path, rule.name) in found, wanted)
                    self.assertEqual(rules.judge(rule.name, tree, path)[0] == "found", wanted)
                    told[wanted] += 1
        self.assertGreater(min(told.values()), 300)


class JudgeTest(Case):

    def test_answers(self):
        told = collections.Counter()
        for _, rules, tree in draw_cases(23, 250):
            for path in tree.each_path():
                for rule in rules.rules:
                    answer = rules.judge(rule.name, tree, path)
                    self.assertEqual(answer[0] == "found", second.finds(SCHEMA, rule, tree, path))
                    self.assertTrue(is_right(rule, tree, path, answer))
                    self.assertEqual(rules.check(rule.name, tree, path, answer), answer[0])
                    told[answer[0], answer[1][0] if answer[0] == "not" else rule.condition is None] += 1
        self.assertEqual(len(told), 4)
        self.assertGreater(min(told.values()), 100)

    def test_answers_for_other_nodes_and_rules(self):
        told = collections.Counter()
        for rnd, rules, tree in draw_cases(24, 250):
            paths = list(tree.each_path())
            for _ in range(20):
                rule, other = rnd.choice(rules.rules), rnd.choice(rules.rules)
                path = rnd.choice(paths)
                answer = rules.judge(rnd.choice((rule, other)).name, tree, rnd.choice(paths))
                try:
                    found = rules.check(rule.name, tree, path, answer) == answer[0]
                except InvalidAnswer as error:
                    self.assertIn(error.part, ("binding", "reason"))
                    found = False
                self.assertEqual(found, is_right(rule, tree, path, answer))
                told[found] += 1
        self.assertGreater(min(told.values()), 300)

    def test_exactly_one_of_grounds_and_refutations_exists(self):
        for _, rules, tree in draw_cases(25, 150):
            for path in tree.each_path():
                for rule in rules.rules:
                    if rule.condition is None:
                        continue
                    turned = RuleSet(SCHEMA, Rule("turned", rule.root, -rule.condition, sort=rule.kin))
                    one = rules.judge(rule.name, tree, path)
                    other = turned.judge("turned", tree, path)
                    if one[0] == "found":
                        self.assertEqual(other, ("not", ("condition", ("not", one[2]))))
                    elif one[1][0] == "condition":
                        self.assertEqual(other, ("found", other[1], ("not", one[1][1])))
                    else:
                        self.assertEqual(other, one)


class RelationTest(Case):

    def test_relations(self):
        told = collections.Counter()
        rnd = random.Random(26)
        for _ in range(300):
            rules = draw_rules(rnd, 2)
            one, other = rules.pattern("r0"), rules.pattern("r1")
            relation = rules.relation("r0", "r1")
            told[relation] += 1
            if one.kin != other.kin:
                self.assertEqual(relation, "apart")
                continue
            told_by_order = {(True, True): "same", (True, False): "below", (False, True): "above"}
            wanted = told_by_order.get((one <= other, other <= one), "meet" if do_meet(one, other) else "apart")
            self.assertEqual(relation, wanted)
        self.assertEqual(set(told), {"same", "below", "above", "meet", "apart"})

    def test_what_relations_tell_about_findings(self):
        for rnd, rules, tree in draw_cases(27, 300):
            plain = RuleSet(SCHEMA, *[Rule(rule.name, rule.root, sort=rule.kin) for rule in rules.rules])
            found = {name: set() for name in ("r0", "r1", "r2")}
            for finding in plain.run(tree):
                found[finding.rule].add(finding.path)
            for one in found:
                for other in found:
                    relation = plain.relation(one, other)
                    if relation == "apart":
                        self.assertEqual(found[one] & found[other], set())
                    if relation in ("below", "same"):
                        self.assertTrue(found[one] <= found[other])
                    if relation in ("above", "same"):
                        self.assertTrue(found[one] >= found[other])


class SubtreeTest(Case):

    def test_rules_without_inside_look_below_only(self):
        looked = 0
        for _, rules, tree in draw_cases(28, 300):
            for rule in rules.rules:
                if rule.condition is not None and has_inside(rule.condition):
                    continue
                for path in tree.each_path():
                    is_found = rules.judge(rule.name, tree, path)[0]
                    for length in range(len(path) + 1):
                        looked += 1
                        part = tree[path[:length]]
                        self.assertEqual(rules.judge(rule.name, part, path[length:])[0], is_found)
        self.assertGreater(looked, 1000)

    def test_rules_with_inside_need_the_nodes_above(self):
        tree = neg(neg(num("a")))
        rules = RuleSet(SCHEMA, Rule("a", Var("x"), Inside(Var("y"), sort="expr"), sort="expr"))
        self.assertEqual(rules.judge("a", tree, (0,))[0], "found")
        self.assertEqual(rules.judge("a", tree[0,], ())[0], "not")


if __name__ == "__main__":
    unittest.main()
