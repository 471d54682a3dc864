"""Tests of ruleengine.benches, worked out by hand."""

import unittest

from ruleengine.benches import Bench, Report, Suppression, reported
from ruleengine.conditions import Has, Inside
from ruleengine.errors import InvalidPath, InvalidTree, LimitExceeded, NothingToUndo, UnknownName, WrongTree
from ruleengine.rules import Finding, Rule, RuleSet
from ruleengine.trees import Tree, Var
from tests.helpers import Case, odd_arguments
from tests.samples import ONE, PASS, SCHEMA, THREE, TWO, W, X, add, call, let, neg, negs, num, p_add, p_neg, p_num

RULES = RuleSet(SCHEMA, Rule("num", p_num(W)), Rule("neg", p_neg(X)), Rule("both", p_neg(p_num("1"))))
# Findings: neg at (0,), num at (0, 0) with both at (0,), num at (1, 0), neg at (1,).
TREE = add(neg(ONE), neg(TWO))
FOUND = [("neg", (0,)), ("both", (0,)), ("num", (0, 0)), ("neg", (1,)), ("num", (1, 0))]
HIGH = RuleSet(SCHEMA, Rule("num", p_num(W), -(Inside(p_neg(X)) | Has(ONE))), Rule("neg", p_neg(X), Has(p_num(W))))


def pairs(findings):
    """The names and paths of findings."""
    return [(one.rule, one.path) for one in findings]


def told(report):
    """What a report tells: the shown ones, the hidden ones with numbers, the unused and the spare ones."""
    hidden = [(one.rule, one.path, number) for one, number in report.hidden]
    return pairs(report.shown), hidden, report.unused, report.spare


def state(bench):
    """All that can be read of a bench."""
    report = bench.report()
    return (bench.tree, bench.suppressions, bench.findings, bench.effort, list(bench.history()), report.shown,
            report.hidden, report.unused, report.spare)


class SuppressionTest(Case):

    def test_properties(self):
        one = Suppression((0,), "num", "neg")
        self.assertEqual((one.path, one.silences), ((0,), ("num", "neg")))
        self.assertEqual((Suppression(()).path, Suppression(path=(1,)).silences), ((), ()))
        path, names = [0], ["a"]
        self.assertIs(Suppression(path, names).path, path)
        self.assertIs(Suppression(path, names).silences[0], names)

    def test_nothing_is_checked(self):
        for label, value in odd_arguments():
            with self.subTest(label):
                one = Suppression(value, value)
                self.assertIs(one.path, value)
                self.assertIs(one.silences[0], value)

    def test_equality(self):
        self.check_equal(Suppression((0,), "a", "b"), Suppression((0,), "a", "b"))
        self.check_equal(Suppression(()), Suppression(()))
        for other in (Suppression((1,), "a", "b"), Suppression((0,), "b", "a"), Suppression((0,), "a"),
                      Suppression((0,)), ((0,), ("a", "b")), None, Finding("a", (0,), {})):
            self.check_unequal(Suppression((0,), "a", "b"), other)


class ReportedTest(Case):

    def check_report(self, suppressions, shown, hidden, unused=(), spare=(), tree=TREE, rules=RULES):
        report = reported(rules, tree, *[Suppression(*one) for one in suppressions])
        self.assertIs(type(report), Report)
        self.assertEqual(told(report), (shown, hidden, unused, spare))
        for value in (report.shown, report.hidden, report.unused, report.spare, *report.hidden):
            self.assertIs(type(value), tuple)

    def test_without_suppressions(self):
        self.check_report([], FOUND, [])
        self.assertEqual(reported(RULES, TREE).shown, tuple(RULES.run(TREE)))
        self.check_report([], [], [], tree=call("f"))

    def test_paths_and_names(self):
        self.check_report([((0,),)], FOUND[3:], [("neg", (0,), 0), ("both", (0,), 0), ("num", (0, 0), 0)])
        self.check_report([((0,), "neg")], FOUND[1:], [("neg", (0,), 0)])
        self.check_report([((0,), "num")], [FOUND[0], FOUND[1], *FOUND[3:]], [("num", (0, 0), 0)])
        self.check_report([((), "num", "both")], [FOUND[0], FOUND[3]],
                          [("both", (0,), 0), ("num", (0, 0), 0), ("num", (1, 0), 0)])
        self.check_report([((),)], [], [(*one, 0) for one in FOUND])
        # A path above is not below.
        self.check_report([((0, 0), "neg")], FOUND, [], (0,))
        self.check_report([((1, 0), "num", "num")], FOUND[:4], [("num", (1, 0), 0)])

    def test_the_first_one_that_hides_is_told(self):
        self.check_report(
            [((0, 0),), ((0,), "neg", "num"), ((),)], [],
            [("neg", (0,), 1), ("both", (0,), 2), ("num", (0, 0), 0), ("neg", (1,), 2), ("num", (1, 0), 2)])
        self.check_report([((),), ((0, 0),), ((0,), "neg", "num")], [], [(*one, 0) for one in FOUND], (), (1, 2))

    def test_unused_and_spare_ones(self):
        self.check_report([((1,), "both"), ((0, 0), "neg"), ((1,), "neg")], [*FOUND[:3], FOUND[4]],
                          [("neg", (1,), 2)], (0, 1))
        self.check_report([((1,), "neg"), ((1,), "neg"), ((1,),), ((1, 0),)], FOUND[:3],
                          [("neg", (1,), 0), ("num", (1, 0), 2)], (), (1, 3))
        # One that is given twice: the second one is spare, or both are unused.
        self.check_report([((1,), "both"), ((1,), "both")], FOUND, [], (0, 1))
        self.check_report([((),), ((),)], [], [(*one, 0) for one in FOUND], (), (1,))
        # Without the unused and the spare ones the same is hidden.
        self.check_report([((1,), "neg"), ((1,),)], FOUND[:3], [("neg", (1,), 0), ("num", (1, 0), 1)])

    def test_findings_that_are_hidden(self):
        report = reported(RULES, TREE, Suppression((0,), "neg"), Suppression((1, 0)))
        neg_found, num_found = Finding("neg", (0,), {"x": ONE}), Finding("num", (1, 0), {"w": "2"})
        self.assertEqual(report.hidden, ((neg_found, 0), (num_found, 1)))

    def test_by_name(self):
        self.assertEqual(told(reported(tree=TREE, rules=RULES)), (FOUND, [], (), ()))
        self.check_unequal(reported(RULES, TREE), reported(RULES, TREE))

    def test_wrong_trees_come_first(self):
        for tree, place in ((Tree("Sub"), ()), (add(ONE, neg(PASS)), (1,))):
            self.check_raises(WrongTree, {}, lambda: reported(RULES, tree, Suppression(None, None)))
            try:
                reported(RULES, tree, Suppression(None, None))
            except WrongTree as error:
                self.assertEqual(error.place, place)

    def test_paths_that_are_none(self):
        for label, value in odd_arguments() + [("another path", (2,)), ("a list", [0]), ("a long path", (0,) * 20000)]:
            with self.subTest(label):
                self.check_raises(InvalidPath, {"value": value},
                                  lambda: reported(RULES, TREE, Suppression(value, None)))
                self.check_raises(InvalidPath, {"value": value}, lambda: reported(
                    RULES, TREE, Suppression((), "num"), Suppression(value), Suppression((), "none")))

    def test_names_that_are_none(self):
        for label, value in odd_arguments() + [("another name", "none"), ("a form", "Neg"), ("no text", "")]:
            with self.subTest(label):
                self.check_raises(UnknownName, {"word": value}, lambda: reported(
                    RULES, TREE, Suppression((), "num"), Suppression((0,), "neg", value, "none"), Suppression((9,))))

    def test_one_after_the_other(self):
        self.check_raises(UnknownName, {"word": "a"}, lambda: reported(
            RULES, TREE, Suppression((), "num", "a", "b"), Suppression((9,), "c")))
        path = (9,)
        self.check_raises(InvalidPath, {"value": path}, lambda: reported(
            RULES, TREE, Suppression(path, "a"), Suppression((), "c")))


class BenchTest(Case):

    def test_a_new_bench(self):
        bench = Bench(RULES, TREE)
        self.assertEqual(Bench.MAX_EDITS, 60)
        self.assertIs(bench.rules, RULES)
        self.assertEqual((bench.tree, bench.suppressions, bench.effort), (TREE, (), 15))
        self.assertEqual(bench.findings, tuple(RULES.run(TREE)))
        self.assertIs(type(bench.findings), tuple)
        self.assertEqual(list(bench.history()), [TREE])
        self.assertEqual(told(bench.report()), (FOUND, [], (), ()))
        self.check_raises(WrongTree, {}, lambda: Bench(RULES, Tree("Sub")))
        self.assertEqual(Bench(tree=TREE, rules=RuleSet(SCHEMA)).effort, 0)

    def test_put(self):
        bench = Bench(RULES, TREE)
        self.assertIsNone(bench.put((1,), neg(neg(ONE))))
        self.assertEqual(bench.tree, add(neg(ONE), neg(neg(ONE))))
        self.assertEqual(bench.findings, tuple(RULES.run(bench.tree)))
        self.assertEqual(bench.effort, 3 * (1 + 3))
        bench.put(other=TWO, path=(1, 0, 0))
        self.assertEqual((bench.tree, bench.effort), (add(neg(ONE), neg(neg(TWO))), 3 * (3 + 1)))
        bench.put((), ONE)
        self.assertEqual((bench.tree, bench.effort), (ONE, 3))
        self.assertEqual(pairs(bench.findings), [("num", ())])
        self.assertEqual(list(bench.history()), [
            TREE, add(neg(ONE), neg(neg(ONE))), add(neg(ONE), neg(neg(TWO))), ONE])

    def test_effort_with_conditions(self):
        # Where an Inside occurs, also in another condition, all is judged again.
        for rules, many in ((HIGH, 2), (RuleSet(SCHEMA, *HIGH.rules[1:]), None)):
            bench = Bench(rules, TREE)
            self.assertEqual(bench.effort, 5 * len(rules))
            bench.put((1, 0), add(ONE, TWO))
            self.assertEqual(bench.effort, many * 7 if many else 1 * (2 + 3))
            bench.suppress((1,))
            self.assertEqual(bench.effort, 0)
        rules = RuleSet(SCHEMA, Rule("a", p_num(W)), Rule("b", p_neg(X), Has(p_num(W), -Inside(p_add(X, Var("y"))))))
        bench = Bench(rules, TREE)
        bench.put((1, 0), ONE)
        self.assertEqual(bench.effort, 2 * 5)

    def test_findings_below_and_above_an_edit(self):
        bench = Bench(HIGH, add(ONE, neg(add(TWO, THREE))))
        self.assertEqual(pairs(bench.findings), [("num", (0,)), ("neg", (1,))])
        # Below the edit: the numbers are no longer inside a negation.
        bench.put((1,), add(TWO, THREE))
        self.assertEqual(pairs(bench.findings), [("num", (0,)), ("num", (1, 0)), ("num", (1, 1))])
        bench.put((), neg(add(ONE, TWO)))
        self.assertEqual(pairs(bench.findings), [("neg", ())])
        # Above the edit: the negation has no number any more.
        bench.put((0,), call("f"))
        self.assertEqual(pairs(bench.findings), [])
        bench.undo()
        self.assertEqual(pairs(bench.findings), [("neg", ())])

    def test_suppress(self):
        bench = Bench(RULES, TREE)
        findings = bench.findings
        self.assertIsNone(bench.suppress((0,), "neg", "num"))
        self.assertEqual((bench.tree, bench.effort, bench.findings), (TREE, 0, findings))
        bench.suppress(path=())
        self.assertEqual(bench.suppressions, (Suppression((0,), "neg", "num"), Suppression(())))
        self.assertIs(type(bench.suppressions), tuple)
        self.assertEqual(told(bench.report())[1], [
            ("neg", (0,), 0), ("both", (0,), 1), ("num", (0, 0), 0), ("neg", (1,), 1), ("num", (1, 0), 1)])
        self.assertEqual(list(bench.history()), [TREE] * 3)

    def test_suppressions_that_are_taken_away(self):
        tree = add(add(neg(ONE), TWO), neg(THREE))
        paths = [(), (0,), (0, 0), (0, 0, 0), (0, 1), (1,), (1, 0)]
        for path, other, kept in (
                ((), tree, [()]), ((0,), ONE, [(), (0,), (1,), (1, 0)]),
                ((0, 0), neg(ONE), [(), (0,), (0, 0), (0, 1), (1,), (1, 0)]), ((1,), neg(THREE), paths[:6]),
                ((0, 0, 0), TWO, paths), ((1, 0), neg(neg(ONE)), paths)):
            bench = Bench(RULES, tree)
            for one in paths:
                bench.suppress(one, "num")
            before = state(bench)
            bench.put(path, other)
            self.assertEqual([one.path for one in bench.suppressions], kept)
            bench.undo()
            self.assertEqual(state(bench), before)

    def test_numbers_after_suppressions_are_taken_away(self):
        bench = Bench(RULES, TREE)
        for path in ((0, 0), (1,), (0,)):
            bench.suppress(path)
        bench.put((0,), neg(THREE))
        self.assertEqual(told(bench.report()), ([], [
            ("neg", (0,), 1), ("num", (0, 0), 1), ("neg", (1,), 0), ("num", (1, 0), 0)], (), ()))

    def test_undo(self):
        bench = Bench(RULES, TREE)
        states = [state(bench)]
        edits = [lambda: bench.suppress((0, 0)), lambda: bench.put((0,), TWO), lambda: bench.suppress((), "num"),
                 lambda: bench.put((), neg(neg(ONE))), lambda: bench.put((0, 0), TWO)]
        for edit in edits:
            edit()
            states.append(state(bench))
        for wanted in states[-2::-1]:
            self.assertIsNone(bench.undo())
            self.assertEqual(state(bench), wanted)
        self.check_raises(NothingToUndo, {}, bench.undo)
        self.assertEqual(state(bench), states[0])
        # What was undone is forgotten.
        bench.put((1,), THREE)
        self.assertEqual(list(bench.history()), [TREE, add(neg(ONE), THREE)])
        bench.undo()
        self.check_raises(NothingToUndo, {}, bench.undo)

    def test_the_same_tree_is_an_edit_too(self):
        bench = Bench(RULES, TREE)
        bench.put((), TREE)
        self.assertEqual((list(bench.history()), bench.effort), ([TREE, TREE], 15))
        bench.undo()
        self.check_raises(NothingToUndo, {}, bench.undo)

    def test_60_edits_and_one_more(self):
        bench = Bench(RULES, TREE)
        for number in range(60):
            if number % 3:
                bench.put((number % 2,), num(str(number)))
            else:
                bench.suppress((number % 2,))
        before = state(bench)
        self.assertEqual(len(before[4]), 61)
        for edit in (lambda: bench.put((0,), ONE), lambda: bench.suppress(()), lambda: bench.suppress((0,), "num")):
            self.check_raises(LimitExceeded, {"limit": 60}, edit)
            self.assertEqual(state(bench), before)
        bench.undo()
        bench.suppress(())
        self.check_raises(LimitExceeded, {"limit": 60}, lambda: bench.put((0,), ONE))
        # The limit comes behind every other error.
        self.check_raises(WrongTree, {"place": ()}, lambda: bench.put((0,), Tree("Sub")))
        self.check_raises(InvalidPath, {"value": None}, lambda: bench.put(None, ONE))
        self.check_raises(WrongTree, {"place": ()}, lambda: bench.put((0,), PASS))
        self.check_raises(InvalidTree, {"part": "size"}, lambda: bench.put((0,), negs(100)))
        self.check_raises(InvalidPath, {"value": None}, lambda: bench.suppress(None))
        self.check_raises(UnknownName, {"word": "none"}, lambda: bench.suppress((), "none"))
        for _ in range(60):
            bench.undo()
        self.check_raises(NothingToUndo, {}, bench.undo)
        self.assertEqual(state(bench), state(Bench(RULES, TREE)))

    def test_errors_of_put(self):
        bench = Bench(RULES, let("v", ONE, (PASS,)))
        bench.suppress((0,))
        before = state(bench)
        for label, value in odd_arguments() + [("another path", (2,)), ("a list", [0]), ("a long path", (0,) * 20000)]:
            with self.subTest(label):
                self.check_raises(InvalidPath, {"value": value}, lambda: bench.put(value, ONE))
                self.check_raises(InvalidPath, {"value": value}, lambda: bench.put(value, PASS))
                # The other tree comes first.
                self.check_raises(WrongTree, {}, lambda: bench.put(value, neg(PASS)))
        for path, other in (((0,), PASS), ((1,), ONE), ((), ONE)):
            self.check_raises(WrongTree, {"place": ()}, lambda: bench.put(path, other))
        try:
            bench.put((0,), add(ONE, neg(neg(PASS))))
        except WrongTree as error:
            self.assertEqual(error.place, (1, 0))
        self.check_raises(InvalidTree, {"part": "size"}, lambda: bench.put((0,), negs(100)))
        self.check_raises(InvalidTree, {"part": "size"}, lambda: bench.put((0,), call("f", *[ONE] * 398)))
        self.check_raises(WrongTree, {"place": ()}, lambda: bench.put((1,), negs(100)))
        self.assertEqual(state(bench), before)
        bench.put((0,), negs(99))
        self.assertEqual(len(bench.tree), 101)
        bench.put((0,), call("f", *[ONE] * 397))
        self.assertEqual(len(bench.tree), 400)

    def test_errors_of_suppress(self):
        bench = Bench(RULES, TREE)
        before = state(bench)
        for label, value in odd_arguments() + [("another path", (2,)), ("a list", [0])]:
            with self.subTest(label):
                self.check_raises(InvalidPath, {"value": value}, lambda: bench.suppress(value, None))
        for label, value in odd_arguments() + [("another name", "none"), ("no text", "")]:
            with self.subTest(label):
                self.check_raises(UnknownName, {"word": value}, lambda: bench.suppress((), "num", value, "none"))
        self.assertEqual(state(bench), before)

    def test_histories(self):
        bench = Bench(RULES, ONE)
        bench.put((), TWO)
        bench.suppress(())
        bench.put((), THREE)
        one, other = iter(bench.history()), iter(bench.history())
        self.assertEqual([(next(one), next(other)) for _ in range(4)],
                         [(ONE, ONE), (TWO, TWO), (TWO, TWO), (THREE, THREE)])
        self.assertEqual([(first, second) for first in bench.history() for second in bench.history()][4:6],
                         [(TWO, ONE), (TWO, TWO)])
        # A history that has begun goes on as it was.
        begun = iter(bench.history())
        seen = [next(begun)]
        bench.undo()
        bench.undo()
        self.assertEqual(seen + list(begun), [ONE, TWO, TWO, THREE])
        self.assertEqual(list(bench.history()), [ONE, TWO])

    def test_benches_beside_each_other(self):
        one, other = Bench(RULES, TREE), Bench(RULES, TREE)
        one.put((0,), ONE)
        one.suppress(())
        self.assertEqual(state(other), state(Bench(RULES, TREE)))
        self.check_raises(NothingToUndo, {}, other.undo)
        self.check_equal(one, one)
        self.check_unequal(other, Bench(RULES, TREE))

    def test_reports_stay_as_they_are(self):
        bench = Bench(RULES, TREE)
        report, before = bench.report(), told(bench.report())
        bench.suppress(())
        self.assertEqual(told(report), before)
        self.assertEqual(told(bench.report())[0], [])


if __name__ == "__main__":
    unittest.main()
