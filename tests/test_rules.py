"""Tests of ruleengine.rules: Rule, Finding, how sets of rules are made, and what they tell about their rules."""

import unittest

from ruleengine.conditions import All, Has, Inside, Not, Some
from ruleengine.errors import InvalidRule, UnknownName
from ruleengine.patterns import Pattern
from ruleengine.rules import Finding, Rule, RuleSet
from ruleengine.trees import Like, Rest, Tree, Var, Word
from tests.helpers import Case, is_same, names, not_names, odd_arguments, odd_values, repeated
from tests.samples import (
    ONE, PASS, Q, R, S, SCHEMA, TWO, U, W, X, Y, add, expr, make_schema, negs, p_add, p_call, p_let, p_neg, p_num,
    some_things, stmt)

RULES = (Rule("neg", p_neg(X)), Rule("add", p_add(X, Y), Has(p_neg(X))), Rule("any", S, sort="stmt"))


class RuleTest(Case):

    def test_properties(self):
        root, condition = p_neg(X), Has(p_neg(X))
        rule = Rule("a", root, condition, sort="expr")
        self.assertEqual(rule.name, "a")
        self.assertIs(rule.root, root)
        self.assertIs(rule.condition, condition)
        self.assertIsNone(Rule("a", root).condition)

    def test_nothing_is_checked(self):
        for label, value in odd_arguments():
            with self.subTest(label):
                rule = Rule(value, value, value, sort=value)
                self.assertTrue(rule.name is value and rule.root is value and rule.condition is value)

    def test_arguments_by_name(self):
        rule = Rule(condition=None, sort="expr", root=X, name="a")
        self.assertEqual((rule.name, rule.root, rule.condition), ("a", X, None))

    def test_a_rule_is_equal_to_itself_only(self):
        rule = RULES[0]
        self.check_equal(rule, rule)
        self.check_unequal(rule, Rule("neg", p_neg(X)))
        self.check_unequal(rule, Rule("neg", rule.root))


class FindingTest(Case):

    def test_properties(self):
        finding = Finding("a", (0, 1), {"x": ONE, "r": (TWO,), "w": "t"})
        self.assertEqual((finding.rule, finding.path), ("a", (0, 1)))
        self.assertEqual(finding.binding, {"x": ONE, "r": (TWO,), "w": "t"})

    def test_the_binding_is_a_new_dict_each_time(self):
        passed = {"x": ONE}
        finding = Finding("a", (), passed)
        passed["x"] = TWO
        self.assertEqual(finding.binding, {"x": ONE})
        finding.binding["x"] = TWO
        finding.binding.clear()
        self.assertEqual(finding.binding, {"x": ONE})
        self.assertIsNot(finding.binding, finding.binding)

    def test_equality(self):
        one = Finding("a", (0,), {"x": ONE, "w": "t"})
        self.check_equal(one, one)
        self.check_equal(one, Finding("a", (0,), {"w": "t", "x": Tree("Num", "1")}))
        self.check_equal(Finding("a", (), {"r": (ONE,)}), Finding("a", (), {"r": (Tree("Num", "1"),)}))
        for other in (Finding("b", (0,), {"x": ONE, "w": "t"}), Finding("a", (1,), {"x": ONE, "w": "t"}),
                      Finding("a", (), {"x": ONE, "w": "t"}), Finding("a", (0,), {"x": TWO, "w": "t"}),
                      Finding("a", (0,), {"x": ONE}), Finding("a", (0,), {"x": ONE, "w": "u"}),
                      Finding("a", (0,), {"x": ONE, "w": "t", "v": "t"}), Finding("a", (0,), {"y": ONE, "w": "t"})):
            self.check_unequal(one, other)

    def test_a_finding_is_no_other_value(self):
        one = Finding("a", (0,), {})
        for label, value in odd_values() + some_things() + [("a tuple", ("a", (0,), {})), ("a rule", RULES[0])]:
            with self.subTest(label):
                self.check_unequal(one, value)

    def test_arguments_by_name(self):
        self.check_equal(Finding(binding={}, path=(), rule="a"), Finding("a", (), {}))


class MakeRuleSetTest(Case):

    def check_fault(self, spot, fault, item, *rules):
        """Check what is raised for rules, passed in both ways, and that item is the very object."""
        fields = {"spot": spot, "fault": fault, "item": item}
        self.check_raises(InvalidRule, fields, lambda: RuleSet(SCHEMA, *rules))
        self.check_raises(InvalidRule, fields, lambda: RuleSet.of(SCHEMA, tuple(rules)))

    def check_condition(self, fault, item, condition, root=p_call(W, X, R)):
        """Check the fault of a condition, alone and beside and below others, and in a later rule."""
        right = Has(p_neg(X))
        for made in (condition, -condition, All(right, condition), Some(condition, right), right & -condition,
                     Not(All(Some(), right | condition))):
            self.check_fault(0, fault, item, Rule("a", root, made))
            self.check_fault(2, fault, item, RULES[0], RULES[1], Rule("a", root, made), None)
        for kind in (Has, Inside):
            if condition.nesting < 2:
                self.check_fault(0, fault, item, Rule("a", root, kind(p_neg(Var("k")), condition)))
                self.check_fault(0, fault, item, Rule("a", root, kind(Var("k"), -condition, sort="expr")))

    def test_properties(self):
        for rules in (RuleSet(SCHEMA, *RULES), RuleSet.of(SCHEMA, RULES), RuleSet.of(rules=RULES, schema=SCHEMA)):
            self.assertIs(type(rules), RuleSet)
            self.assertIs(rules.schema, SCHEMA)
            self.assertIs(type(rules.rules), tuple)
            self.assertEqual(len(rules.rules), 3)
            self.assertTrue(all(one is other for one, other in zip(rules.rules, RULES)))
            self.assertEqual((len(rules), rules.MAX_RULES, RuleSet.MAX_RULES), (3, 12, 12))

    def test_without_rules(self):
        for rules in (RuleSet(SCHEMA), RuleSet.of(SCHEMA, ())):
            self.assertEqual((len(rules), rules.rules), (0, ()))
            self.assertEqual(list(rules.run(ONE)), [])

    def test_the_schema_by_name(self):
        self.assertEqual(len(RuleSet(schema=SCHEMA)), 0)

    def test_values_that_are_no_rules(self):
        others = [("a tuple", ("a", X)), ("a root", p_neg(X)), ("a condition", Has(p_neg(X))), ("a list", [RULES[0]]),
                  ("a tuple of rules", RULES), ("a set", RuleSet(SCHEMA)), ("a finding", Finding("a", (), {}))]
        for label, value in odd_arguments() + some_things() + others:
            with self.subTest(label):
                self.check_fault(0, "rule", None, value)
                self.check_fault(2, "rule", None, RULES[0], RULES[1], value, None)

    def test_of_takes_a_tuple(self):
        for value in (list(RULES), None, RULES[0], {"a": RULES[0]}, "a", repeated(list)):
            self.check_raises(InvalidRule, {"fault": "rule"}, lambda: RuleSet.of(SCHEMA, value))

    def test_names(self):
        for name in names():
            self.assertIn(name, RuleSet(SCHEMA, Rule(name, p_neg(X))))

    def test_wrong_names(self):
        for label, name in not_names():
            with self.subTest(label):
                self.check_fault(0, "name", name, Rule(name, p_neg(X)))
                self.check_fault(1, "name", name, RULES[0], Rule(name, None, None), None)

    def test_names_that_occur_twice(self):
        again = "".join(["n", "eg"])
        self.check_fault(1, "name", again, RULES[0], Rule(again, p_neg(X)))
        self.check_fault(3, "name", again, *RULES, Rule(again, p_neg(X)))
        self.assertEqual(len(RuleSet(SCHEMA, RULES[0], Rule("Neg", p_neg(X)))), 2)

    def test_faults_of_patterns(self):
        large = Tree("Call", "f", (ONE,) * 60)
        for root, sort, fault, item in (
                (None, None, "root", None), ("Num", None, "root", None), (repeated(tuple), None, "root", None),
                (X, None, "sort", None), (X, "text", "sort", "text"), (p_neg(X), "stmt", "sort", "stmt"),
                (Like("Sub"), None, "form", "Sub"), (large, None, "size", None), (negs(9), None, "size", None),
                (p_neg(Tree("Sub")), None, "form", "Sub"), (p_neg(PASS), None, "sort", "Pass"),
                (Like("Neg"), None, "parts", "Neg"), (p_call(Word("x"), X), None, "name", "x")):
            self.check_fault(0, fault, item, Rule("a", root, sort=sort))
            self.check_fault(1, fault, item, RULES[0], Rule("a", root, "nothing", sort=sort), None)
        for label, sort in odd_arguments():
            with self.subTest(label):
                self.check_fault(0, "sort", sort, Rule("a", X, sort=sort))
                if sort is not None:
                    self.check_fault(0, "sort", sort, Rule("a", p_neg(X), sort=sort))

    def test_wrong_conditions(self):
        others = [("a tuple", (Has(p_neg(X)),)), ("a class", Has), ("a root", p_neg(X)), ("a rule", RULES[0])]
        for label, value in odd_arguments() + some_things() + others:
            if value is not None:
                with self.subTest(label):
                    self.check_fault(0, "condition", None, Rule("a", p_neg(X), value))
                    self.check_fault(1, "condition", None, RULES[0], Rule("a", X, condition=value, sort="expr"), None)

    def test_faults_of_the_roots_of_conditions(self):
        for kind in (Has, Inside):
            self.check_condition("sort", None, kind(Var("k")))
            self.check_condition("sort", "text", kind(Var("k"), sort="text"))
            self.check_condition("sort", "stmt", kind(p_neg(X), sort="stmt"))
            self.check_condition("form", "Sub", kind(Like("Sub")))
            self.check_condition("form", "Sub", kind(p_neg(Tree("Sub")), sort="expr"))
            self.check_condition("size", None, kind(Tree("Call", "f", (ONE,) * 60)))
            self.check_condition("size", None, kind(negs(9)))
            self.check_condition("sort", "Pass", kind(p_neg(PASS)))
            self.check_condition("parts", "Neg", kind(Like("Neg")))
            self.check_condition("name", "k", kind(p_call(Word("k"), Var("k"))))
        for label, sort in odd_arguments():
            if sort is not None:
                with self.subTest(label):
                    self.check_condition("sort", sort, Has(Var("k"), sort=sort))

    def test_names_that_are_bound_for_something_else(self):
        for kind in (Has, Inside):
            self.check_condition("name", "w", kind(p_neg(Var("w"))))
            self.check_condition("name", "x", kind(p_num(Word("x"))))
            self.check_condition("name", "r", kind(p_num(Word("r"))))
            self.check_condition("name", "x", kind(Var("x"), sort="stmt"))
            self.check_condition("name", "r", kind(p_let(U, Y, (R,), (Q,))))
            self.check_condition("name", "x", kind(p_call(U, Rest("x"))))
            # The first one in the order of this pattern.
            self.check_condition("name", "x", kind(p_call(Word("x"), Var("w"), Rest("r"))))
            self.check_condition("name", "w", kind(p_call("f", Var("w"), p_num(Word("x")))))
            # A fault of the pattern itself comes first.
            self.check_condition("form", "Sub", kind(p_add(p_num(Word("x")), Like("Sub"))))

    def test_names_that_are_bound_by_a_condition_further_out(self):
        root = p_num(W)
        for kind in (Has, Inside):
            for other in (Has, Inside):
                inner = kind(p_num(Word("k")))
                self.check_fault(0, "name", "k", Rule("a", root, other(p_neg(Var("k")), inner)))
                self.check_fault(0, "name", "k", Rule("a", root, other(Var("k"), -inner & inner, sort="expr")))
                self.check_fault(0, "name", "k", Rule("a", root, -All(Has(p_neg(Y)), other(p_neg(Var("k")), inner))))
                # Beside each other they may stand for different things.
                rules = RuleSet(SCHEMA, Rule("a", root, other(p_neg(Var("k"))) & inner & Has(p_call("f", Rest("k")))))
                self.assertEqual(len(rules), 1)
                rules = RuleSet(SCHEMA, Rule("a", root, other(p_neg(Y), inner) | kind(Var("k"), sort="stmt")))
                self.assertEqual(len(rules), 1)
                # The same condition may stand for different things at two places.
                rules = RuleSet(SCHEMA, Rule("a", root, other(p_neg(Var("y")), inner) & Has(p_neg(Var("k"))) & inner))
                self.assertEqual(len(rules), 1)
                self.check_fault(0, "name", "k", Rule("a", root, inner & Has(p_neg(Var("k")), inner)))

    def test_conditions_are_looked_at_in_their_order(self):
        form, sort, size = Has(Like("Sub")), Inside(Var("k")), Has(negs(9))
        name, part = Inside(p_num(Word("x"))), Has(Like("Neg"))
        root = p_call(W, X, R)
        cases = [
            (form & sort, "form", "Sub"), (sort & form, "sort", None),
            (All(All(), Some(size, form), sort), "size", None),
            (-(name | form), "name", "x"), (All(Not(part), name), "parts", "Neg"),
            (Has(p_neg(Y), form & name), "form", "Sub"),
            (Has(p_num(Word("x")), form), "name", "x"),
            (Has(negs(9), form), "size", None), (Has(p_neg(Y), name) & form, "name", "x"),
            (form | Has(p_neg(Y), name), "form", "Sub"),
        ]
        for condition, fault, item in cases:
            self.check_fault(0, fault, item, Rule("a", root, condition))

    def test_the_first_wrong_rule_is_told(self):
        wrong = [Rule("1", X), Rule("a", None), Rule("a", p_neg(X), 1), Rule("a", p_neg(X), Has(Like("Sub"))), None]
        for spot, one in enumerate(wrong):
            fault = ("name", "root", "condition", "form", "rule")[spot]
            for other in wrong:
                self.check_raises(InvalidRule, {"spot": 1, "fault": fault},
                                  lambda: RuleSet(SCHEMA, RULES[0], one, other))

    def test_faults_of_one_rule_in_their_order(self):
        self.check_fault(0, "name", "1", Rule("1", None, 1, sort=1))
        self.check_fault(0, "root", None, Rule("a", None, 1, sort=1))
        self.check_fault(0, "sort", 1, Rule("a", p_neg(PASS), 1, sort=1))
        self.check_fault(0, "sort", "Pass", Rule("a", p_neg(PASS), 1))
        self.check_fault(0, "condition", None, Rule("a", p_neg(X), 1))

    def test_size(self):
        many = [Rule("r" + str(number), p_neg(X)) for number in range(20)]
        self.assertEqual(len(RuleSet(SCHEMA, *many[:12])), 12)
        self.check_fault(12, "size", None, *many[:13])
        self.check_fault(12, "size", None, *many)
        # This comes at last, so behind the faults of rules behind the twelfth one.
        self.check_fault(3, "rule", None, *many[:3], None, *many[3:])
        self.check_fault(12, "rule", None, *many[:12], None)
        self.check_fault(12, "name", "r0", *many[:12], Rule("r0", p_neg(X)))
        self.check_fault(14, "root", None, *many[:14], Rule("a", None))
        self.check_fault(19, "form", "Sub", *many[:19], Rule("a", Like("Sub")))

    def test_the_passed_list_may_change_later(self):
        passed = list(RULES)
        rules = RuleSet(SCHEMA, *passed)
        passed.clear()
        self.assertEqual(len(rules), 3)

    def test_item_is_the_very_object(self):
        name = Word("".join(["x", "yz"])).name
        try:
            RuleSet(SCHEMA, Rule("a", p_neg(Var("xyz")), Has(p_num(Word(name)))))
        except InvalidRule as error:
            self.assertTrue(is_same(error.item, name))


class AskRuleSetTest(Case):

    def setUp(self):
        super().setUp()
        self.rules = RuleSet(SCHEMA, *RULES)

    def test_rules_by_name(self):
        for rule in RULES:
            self.assertTrue((rule.name in self.rules) is True)
            self.assertIs(self.rules[rule.name], rule)

    def test_other_names(self):
        texts = [(text, text) for text in ("", "Neg", "neg ", "x", "expr", "x" * 20000)]
        for label, name in odd_arguments() + some_things() + texts + [("a rule", RULES[0]), ("a tuple", ("neg",))]:
            with self.subTest(label):
                self.assertTrue((name in self.rules) is False)
                fields = {"word": name}
                self.check_raises(UnknownName, fields, lambda: self.rules[name])
                self.check_raises(UnknownName, fields, lambda: self.rules.pattern(name))
                self.check_raises(UnknownName, fields, lambda: self.rules.relation(name, "neg"))
                self.check_raises(UnknownName, fields, lambda: self.rules.relation("neg", name))
                self.check_raises(UnknownName, fields, lambda: self.rules.relation(name, None))

    def test_patterns(self):
        self.assertIs(type(self.rules.pattern("neg")), Pattern)
        self.assertEqual(self.rules.pattern("neg"), expr(p_neg(X)))
        self.assertEqual(self.rules.pattern(name="add").text, "Add(x, y)")
        self.assertEqual((self.rules.pattern("any").text, self.rules.pattern("any").kin), ("s", "stmt"))
        self.assertIs(self.rules.pattern("add").root, RULES[1].root)

    def test_they_are_not_iterated_over(self):
        with self.assertRaises(TypeError):
            list(self.rules)

    def test_relations(self):
        roots = {"any": X, "add": p_add(X, Y), "twice": p_add(X, X), "turned": p_add(Y, X), "left": p_add(p_neg(X), Y),
                 "right": p_add(X, p_neg(Y)), "ring": p_add(X, p_neg(X)), "num": p_num(W), "one": ONE,
                 "row": p_call("f", R), "more": p_call("f", X, R)}
        sorts = {name: "expr" for name in roots}
        rules = RuleSet(make_schema(), *[Rule(name, root, sort=sorts[name]) for name, root in roots.items()],
                        Rule("other", S, sort="stmt"))
        wanted = {
            ("any", "add"): "above", ("any", "one"): "above", ("add", "twice"): "above", ("add", "turned"): "same",
            ("add", "left"): "above", ("left", "right"): "meet", ("twice", "left"): "meet", ("twice", "ring"): "apart",
            ("ring", "right"): "below", ("num", "one"): "above", ("num", "add"): "apart", ("one", "row"): "apart",
            ("row", "more"): "above", ("left", "ring"): "meet", ("any", "any"): "same", ("other", "any"): "apart",
            ("other", "one"): "apart", ("other", "other"): "same", ("twice", "turned"): "below",
        }
        turned = {"above": "below", "below": "above", "same": "same", "meet": "meet", "apart": "apart"}
        for (one, other), relation in wanted.items():
            with self.subTest(one + " " + other):
                self.assertEqual(rules.relation(one, other), relation)
                self.assertEqual(rules.relation(other, one), turned[relation])
                self.assertEqual(rules.relation(other=other, one=one), relation)

    def test_conditions_do_not_count_for_relations(self):
        rules = RuleSet(SCHEMA, Rule("a", p_neg(X), Has(ONE)), Rule("b", p_neg(Y), -Has(ONE)))
        self.assertEqual(rules.relation("a", "b"), "same")

    def test_relations_of_patterns_whose_common_instance_is_large(self):
        row = [Var("v" + str(number)) for number in range(14)]
        one = p_call("f", *row, *row)
        other = p_call("f", *row, *[p_add(row[at + 1], row[at + 1]) for at in range(13)], Y)
        rules = RuleSet(SCHEMA, Rule("a", one), Rule("b", other))
        self.assertEqual((rules.relation("a", "b"), rules.relation("b", "a")), ("meet", "meet"))

    def test_operators(self):
        for call_it in (lambda: self.rules & self.rules, lambda: self.rules < self.rules, lambda: -self.rules):
            with self.assertRaises(TypeError):
                call_it()
        self.check_equal(self.rules, self.rules)
        self.check_unequal(self.rules, RuleSet(SCHEMA, *RULES))
        self.check_unequal(self.rules, stmt(S))
        self.check_unequal(self.rules, add(ONE, TWO))


if __name__ == "__main__":
    unittest.main()
