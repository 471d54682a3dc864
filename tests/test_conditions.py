"""Tests of ruleengine.conditions: how conditions are made, and their nesting."""

import unittest

from ruleengine.conditions import All, Condition, Has, Inside, Not, Some
from ruleengine.errors import InvalidPart
from ruleengine.trees import Like, Tree
from tests.helpers import Case, odd_arguments
from tests.samples import ONE, R, U, W, X, expr, p_call, p_neg, some_things

ROOTED = (Has, Inside)
HAS, IN = Has(p_neg(X)), Inside(p_neg(X))
DEEP = Has(p_neg(X), IN)


class ConditionTest(Case):

    def check_part(self, part, call):
        self.check_raises(InvalidPart, {"part": part}, call)

    def odd_conditions(self):
        """Pairs of a label and a value that is no condition."""
        return odd_arguments() + some_things() + [
            ("a tree", ONE), ("a Var", X), ("a Like", p_neg(X)), ("a class", Has), ("a tuple", (HAS,)),
            ("a list", [HAS])]

    def test_classes(self):
        self.assertEqual(Condition.MAX_NESTING, 2)
        for kind in (Has, Inside, All, Some, Not):
            self.assertTrue(issubclass(kind, Condition))
            self.assertEqual(kind.MAX_NESTING, 2)

    def test_roots(self):
        for kind in ROOTED:
            for root in (X, p_neg(X), ONE, Like("Sub"), Tree("Sub"), p_call(W, *[X] * 59), Tree("Row", (ONE,) * 200)):
                self.assertEqual(kind(root).nesting, 1)
                self.assertEqual(kind(root=root).nesting, 1)
                self.assertEqual(kind(root, None).nesting, 1)
                self.assertEqual(kind(root, where=None, sort="expr").nesting, 1)

    def test_wrong_roots(self):
        others = [("a row", (X,)), ("a condition", HAS), ("a text", "Num")]
        for kind in ROOTED:
            for label, root in odd_arguments() + some_things() + others:
                with self.subTest(kind.__name__ + " " + label):
                    self.check_part("root", lambda: kind(root))
                    self.check_part("root", lambda: kind(root, HAS, sort="expr"))

    def test_nothing_else_is_checked_of_the_root(self):
        for kind in ROOTED:
            for _, sort in odd_arguments():
                self.assertEqual(kind(X, sort=sort).nesting, 1)
                self.assertEqual(kind(p_neg(X), HAS, sort=sort).nesting, 2)

    def test_wrong_inner_conditions(self):
        for kind in ROOTED:
            for label, where in self.odd_conditions():
                if where is not None:
                    with self.subTest(kind.__name__ + " " + label):
                        self.check_part("where", lambda: kind(X, where))
                        self.check_part("where", lambda: kind(p_neg(X), where=where, sort="expr"))

    def test_depth(self):
        for kind in ROOTED:
            for where in (HAS, IN, All(HAS), -HAS, HAS | IN, All(), Some(All(), IN)):
                self.assertEqual(kind(X, where).nesting, 1 + where.nesting)
            for where in (DEEP, -DEEP, All(DEEP), HAS | DEEP, DEEP & HAS, Some(All(-DEEP))):
                self.assertEqual(where.nesting, 2)
                self.check_part("depth", lambda: kind(X, where))
                self.check_part("depth", lambda: kind(X, where=where))

    def test_the_first_listed_fault_is_raised(self):
        for kind in ROOTED:
            self.check_part("root", lambda: kind(None, None))
            self.check_part("root", lambda: kind("Num", DEEP))
            self.check_part("root", lambda: kind((X,), (HAS,)))
            self.check_part("where", lambda: kind(X, (DEEP,)))

    def test_nesting(self):
        for condition, nesting in (
                (All(), 0), (Some(), 0), (Not(All()), 0), (All(Some(), All()), 0), (HAS, 1), (IN, 1),
                (Has(X, All()), 1),
                (Inside(X, Not(Some())), 1), (All(HAS, All()), 1), (Some(All(), IN), 1), (Not(HAS), 1), (DEEP, 2),
                (Has(X, HAS & All()), 2), (Inside(X, Not(Some(HAS))), 2), (All(HAS, DEEP), 2), (Some(DEEP, All()), 2),
                (Not(DEEP), 2), (All(HAS, All(Some(Not(DEEP)))), 2)):
            self.assertEqual(condition.nesting, nesting)
            self.assertIs(type(condition.nesting), int)

    def test_wrong_conditions(self):
        for label, value in self.odd_conditions():
            with self.subTest(label):
                for kind in (All, Some):
                    self.check_part(0, lambda: kind(value))
                    self.check_part(0, lambda: kind(value, None))
                    self.check_part(2, lambda: kind(HAS, IN, value, HAS, value))
                self.check_part(0, lambda: Not(value))
                self.check_part(0, lambda: Not(condition=value))

    def test_any_number_of_conditions(self):
        for kind in (All, Some):
            self.assertEqual(kind().nesting, 0)
            self.assertEqual(kind(*[HAS] * 60).nesting, 1)
            self.check_part(60, lambda: kind(*[HAS] * 60, None))

    def test_operators(self):
        for one in (HAS, IN, All(HAS), Some(IN), Not(HAS), All(), DEEP):
            for other in (HAS, IN, All(HAS), Some(IN), Not(HAS), Some()):
                for made, kind in ((one & other, All), (one | other, Some)):
                    self.assertIs(type(made), kind)
                    self.assertEqual(made.nesting, max(one.nesting, other.nesting))
            self.assertIs(type(-one), Not)
            self.assertEqual((-one).nesting, one.nesting)

    def test_operators_with_other_values(self):
        for one in (HAS, IN, All(HAS), Some(IN), Not(HAS)):
            for label, value in self.odd_conditions():
                with self.subTest(label):
                    for call_it in (lambda: one & value, lambda: one | value, lambda: value & one, lambda: value | one):
                        with self.assertRaises(TypeError):
                            call_it()

    def test_other_operators(self):
        for one in (HAS, IN, All(HAS), Some(IN), Not(HAS)):
            for call_it in (lambda: one + one, lambda: one < one, lambda: ~one, lambda: +one, lambda: one[0],
                            lambda: list(one), lambda: one - one):
                with self.assertRaises(TypeError):
                    call_it()

    def test_conditions_are_equal_to_themselves_only(self):
        for make in (lambda: Has(p_neg(X)), lambda: Inside(p_neg(X)), lambda: All(HAS), lambda: Some(HAS),
                     lambda: Not(HAS)):
            one, other = make(), make()
            self.check_equal(one, one)
            self.check_unequal(one, other)

    def test_one_condition_many_times(self):
        one = HAS
        for _ in range(60):
            one = one & one
        self.assertEqual(one.nesting, 1)

    def test_patterns_and_words_are_no_conditions(self):
        for value in (expr(X), U, R):
            self.check_part(0, lambda: Not(value))


if __name__ == "__main__":
    unittest.main()
