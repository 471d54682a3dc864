"""Tests of the facts about guards over drawn rules and programs, by the second way of judging them."""

import collections
import unittest

from ruleengine.errors import InvalidAnswer
from ruleengine.guards import FlowRules, Later, Reached, Unset
from ruleengine.rules import Rule, RuleSet
from ruleengine.trees import Like, Rest, Var, Word
from tests.flowing import FLOW, programs
from tests.guarding import draw_rules, guarded, holds, is_proof
from tests.helpers import Case
from tests.second import finds


def swapped(proof, rnd):
    """A proof with one small change in it, at a drawn place."""
    if not isinstance(proof, tuple) or not proof:
        return ("root",)
    kind = rnd.randrange(6)
    if kind == 0:
        return proof[:-1]
    if kind == 1:
        words = ("each", "one", "not", "path", "closed", "root")
        return (rnd.choice(words), *proof[1:])
    spot = rnd.randrange(len(proof))
    if proof[0] in ("path", "closed") and kind < 4 and len(proof) == 2 and isinstance(proof[1], tuple):
        points = list(proof[1])
        if points and kind == 2:
            del points[rnd.randrange(len(points))]
        elif points:
            points.append(rnd.choice(points))
        return (proof[0], tuple(points))
    if isinstance(proof[spot], int):
        return (*proof[:spot], 1 - proof[spot], *proof[spot + 1:])
    return (*proof[:spot], swapped(proof[spot], rnd), *proof[spot + 1:])


def is_right(rules, told, name, tree, path, answer):
    """Tell if an answer about a guard is a correct one, by the second way; the rules have no conditions."""
    binding = rules.pattern(name)(tree[path])
    try:
        if answer[0] == "found":
            if binding is None or len(answer) != 4 or answer[1] != binding or answer[2] is not None:
                return False
            if name not in told:
                return answer[3] is None
            return is_proof(told[name], tree, path, binding, True, answer[3])
        word, reason = answer[1]
        if word != "guard" or binding is None or name not in told:
            return False
        return is_proof(told[name], tree, path, binding, False, reason)
    except (TypeError, IndexError, ValueError):
        return False


class GuardFactsTest(Case):

    def test_findings(self):
        found = collections.Counter()
        for rnd, tree in programs(61, 500):
            rules, told = draw_rules(rnd)
            wanted = []
            for path in tree.each_path():
                for rule in rules.rules:
                    if finds(rules.schema, rule, tree, path):
                        binding = rules.pattern(rule.name)(tree[path])
                        is_held = rule.name not in told or holds(told[rule.name], tree, path, binding)
                        found[is_held] += 1
                        if is_held:
                            wanted.append((rule.name, path, binding))
            runs = guarded(rules, told).run(tree)
            self.assertEqual([(one.rule, one.path, one.binding) for one in runs], wanted)
        self.assertGreater(min(found[True], found[False]), 500)

    def test_judgements_are_right_and_are_accepted(self):
        words = collections.Counter()
        for rnd, tree in programs(62, 120):
            rules, told = draw_rules(rnd)
            flow_rules = guarded(rules, told)
            for path in tree.each_path():
                for rule in rules.rules:
                    answer = flow_rules.judge(rule.name, tree, path)
                    plain = rules.judge(rule.name, tree, path)
                    self.assertEqual(flow_rules.check(rule.name, tree, path, answer), answer[0])
                    if plain[0] == "not":
                        self.assertEqual(answer, plain)
                        continue
                    self.assertTrue(is_right(rules, told, rule.name, tree, path, answer))
                    held = rule.name not in told or holds(told[rule.name], tree, path, plain[1])
                    self.assertEqual(answer[0], "found" if held else "not")
                    if held:
                        self.assertEqual(answer[:3], plain)
                    else:
                        self.assertEqual(answer[1][0], "guard")
                    words[answer[0]] += 1
        self.assertGreater(min(words.values()), 200)

    def test_changed_answers(self):
        met = collections.Counter()
        for rnd, tree in programs(63, 250):
            rules, told = draw_rules(rnd)
            flow_rules = guarded(rules, told)
            for finding in rules.run(tree):
                answer = flow_rules.judge(finding.rule, tree, finding.path)
                for _ in range(4):
                    if answer[0] == "found":
                        changed = (*answer[:3], swapped(answer[3], rnd))
                    else:
                        changed = ("not", ("guard", swapped(answer[1][1], rnd)))
                    wanted = is_right(rules, told, finding.rule, tree, finding.path, changed)
                    try:
                        told_word = flow_rules.check(finding.rule, tree, finding.path, changed)
                        self.assertEqual(told_word, changed[0])
                        is_accepted = True
                    except InvalidAnswer as error:
                        self.assertEqual(error.part, "guard")
                        is_accepted = False
                    self.assertEqual(is_accepted, wanted)
                    met[wanted] += 1
        self.assertGreater(min(met[True], met[False]), 200)

    def test_answers_of_one_rule_for_another_one(self):
        met = collections.Counter()
        for rnd, tree in programs(64, 200):
            rules, told = draw_rules(rnd)
            other_rules, other_told = draw_rules(rnd)
            one, other = guarded(rules, told), guarded(other_rules, other_told)
            for finding in rules.run(tree):
                for rule in other_rules.rules:
                    answer = other.judge(rule.name, tree, finding.path)
                    if answer[0] == "not" and answer[1][0] != "guard":
                        continue
                    wanted = is_right(rules, told, finding.rule, tree, finding.path, answer)
                    try:
                        one.check(finding.rule, tree, finding.path, answer)
                        is_accepted = True
                    except InvalidAnswer as error:
                        self.assertIn(error.part, ("guard", "binding"))
                        is_accepted = False
                    self.assertEqual(is_accepted, wanted)
                    met[wanted] += 1
        self.assertGreater(min(met[True], met[False]), 100)

    def test_exactly_one_of_both_exists(self):
        for rnd, tree in programs(65, 60):
            rules, told = draw_rules(rnd)
            opposite = {name: ("not", guard) for name, guard in told.items()}
            one, other = guarded(rules, told), guarded(rules, opposite)
            for finding in rules.run(tree):
                if finding.rule in told:
                    answers = [each.judge(finding.rule, tree, finding.path) for each in (one, other)]
                    self.assertEqual(sorted(answer[0] for answer in answers), ["found", "not"])
                    evidence = [answer[3] if answer[0] == "found" else answer[1][1] for answer in answers]
                    self.assertEqual(evidence[1], ("not", evidence[0]))

    def test_the_guards_of_the_lists_of_flows(self):
        rules = RuleSet(
            FLOW.schema, Rule("any", Var("x"), sort="stmt"), Rule("use", Like("Use", Word("n"))),
            Rule("set", Like("Set", Word("n"), (Rest("r"),))))
        flow_rules = FlowRules(rules, FLOW, {
            "any": -Reached(), "use": Unset("n"), "set": -Later("n")})
        for _, tree in programs(66, 100):
            found = list(flow_rules.run(tree))
            self.assertEqual([one.path for one in found if one.rule == "any"], list(FLOW.unreached(tree)))
            self.assertEqual([one.path for one in found if one.rule == "use"], list(FLOW.unset_uses(tree)))
            # An idle set is done, too.
            done = [one.path for one in found if one.rule == "set"
                    and FLOW.ask(tree, FLOW.to_do(tree, one.path))[0] == "path"]
            self.assertEqual(done, list(FLOW.idle_sets(tree)))


if __name__ == "__main__":
    unittest.main()
