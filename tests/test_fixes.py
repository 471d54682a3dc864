"""Tests of ruleengine.fixes, worked out by hand."""

import unittest

from ruleengine import fixes
from ruleengine.conditions import Has, Inside
from ruleengine.errors import (
    InvalidOrder, InvalidTemplate, InvalidTree, Overlap, TooLong, UnknownName, WrongFinding, WrongTree)
from ruleengine.fixes import Fixer, do_overlap, innermost, outermost
from ruleengine.patterns import Pattern
from ruleengine.rules import Finding, Rule, RuleSet
from ruleengine.trees import Like, Rest, Tree, Var, Word
from tests.helpers import Agreeable, Case, Thing, nested, odd_arguments, repeated
from tests.samples import (
    ONE, PASS, R, S, SCHEMA, THREE, TWO, U, W, X, Y, add, call, expr, let, make_schema, neg, negs, num, p_add, p_call,
    p_let, p_neg, p_num, some_things)

TWICE = p_neg(p_neg(X))
RULES = RuleSet(
    SCHEMA, Rule("twice", TWICE), Rule("swap", p_add(X, Y)), Rule("plain", p_call(W, R)),
    Rule("top", p_neg(p_num(W)), -Inside(Var("y"), sort="expr")), Rule("any", X, sort="expr"),
    Rule("let", p_let(W, X, (Rest("r"),), (Rest("q"),))))
FIXER = Fixer(RULES, {"swap": p_add(Y, X), "twice": X, "top": p_num(W), "let": p_let(W, X, (), (X, Rest("q")))})


def make_fixer(rules, templates, order=None):
    """A fixer with rules that are given as a dict from names to roots of the sort expr."""
    made = RuleSet(SCHEMA, *[Rule(name, root, sort="expr") for name, root in rules.items()])
    return Fixer(made, {name: templates[name] for name in order or templates})


def found(name, path, tree, rules=RULES):
    """The finding of a rule at a path."""
    return [one for one in rules.run(tree) if (one.rule, one.path) == (name, path)][0]


class FixerTest(Case):

    def test_properties(self):
        self.assertIs(FIXER.rules, RULES)
        self.assertEqual(FIXER.fixable, ("twice", "swap", "top", "let"))
        self.assertIs(type(FIXER.fixable), tuple)
        self.assertEqual(Fixer(RULES, {}).fixable, ())
        self.assertEqual(fixes.MAX_FIXES, 400)

    def test_templates(self):
        template = FIXER.template("swap")
        self.assertIs(type(template), Pattern)
        self.assertEqual((template.text, template.kin, template.variables), ("Add(y, x)", "expr", ("y", "x")))
        self.assertEqual(FIXER.template(name="twice").text, "x")
        self.assertEqual(FIXER.template("twice").kin, "expr")
        self.assertEqual(FIXER.template("let").text, "Let($w, x, [], [x, *q])")
        for label, value in odd_arguments() + [("no template", "any"), ("no rule", "none"), ("no text", "")]:
            with self.subTest(label):
                for call_it in (FIXER.template, FIXER.settles, FIXER.shrinks):
                    self.check_raises(UnknownName, {"word": value}, lambda: call_it(value))

    def test_unknown_names(self):
        for value in ("none", "", "Neg", 0, True, None, (), ("twice",), b"twice", Thing, 10 ** 999):
            self.check_raises(UnknownName, {"word": value}, lambda: Fixer(RULES, {value: X}))

    def test_templates_of_another_kind(self):
        for label, value in odd_arguments() + some_things() + [("a rule", Rule("a", X)), ("a text", "x")]:
            with self.subTest(label):
                self.check_raises(InvalidTemplate, {"word": "twice", "fault": "root", "item": None},
                                  lambda: Fixer(RULES, {"twice": value}))

    def test_faults_of_patterns(self):
        def check(name, root, fault, item):
            self.check_raises(InvalidTemplate, {"word": name, "fault": fault, "item": item},
                              lambda: Fixer(RULES, {name: root}))
        check("twice", Like("Sub", X), "form", "Sub")
        check("twice", PASS, "sort", "expr")
        check("let", X, "variable", "x")
        check("let", ONE, "sort", "stmt")
        check("twice", p_neg(Like("Sub", X)), "form", "Sub")
        check("twice", p_neg(PASS), "sort", "Pass")
        check("twice", Like("Neg"), "parts", "Neg")
        check("twice", Like("Call", "f", X), "parts", "Call")
        check("twice", p_add(X, p_num(Word("x"))), "name", "x")
        check("twice", call("f", *[ONE] * 60), "size", None)
        check("twice", negs(9), "size", None)
        check("swap", p_add(Like("Sub"), PASS), "form", "Sub")

    def test_variables_of_the_rule(self):
        def check(name, root, item):
            self.check_raises(InvalidTemplate, {"word": name, "fault": "variable", "item": item},
                              lambda: Fixer(RULES, {name: root}))
        check("twice", Y, "y")
        check("twice", p_add(X, Y), "y")
        check("swap", p_add(Var("q"), Var("p")), "q")
        check("swap", p_add(X, p_add(Y, p_num(U))), "u")
        # A variable of the same name that stands for something else.
        check("plain", p_call("f", Var("w")), "w")
        check("plain", p_call("f", Rest("w")), "w")
        check("let", p_let(W, X, (), (Rest("r"),)), "r")
        check("let", p_let(W, X, (Rest("q"),), ()), "q")
        check("let", p_let(Word("x"), ONE), "x")
        Fixer(RULES, {"let": p_let(W, X, (Rest("r"), ), (X, p_neg(X), p_num(W), Rest("q")))})

    def test_the_first_wrong_entry(self):
        def check(wanted, fields, templates):
            self.check_raises(wanted, fields, lambda: Fixer(RULES, templates))
        check(UnknownName, {"word": "none"}, {"twice": X, "none": None, "swap": None})
        check(InvalidTemplate, {"word": "twice", "fault": "root"}, {"twice": None, "none": None})
        check(InvalidTemplate, {"word": "swap", "fault": "variable", "item": "z"}, {"swap": Var("z"), "twice": None})
        check(InvalidTemplate, {"word": "twice", "fault": "root"}, {"twice": None, "swap": Var("z")})
        # Size ahead of form, and form ahead of the variables.
        check(InvalidTemplate, {"word": "twice", "fault": "form", "item": "Sub"}, {"twice": p_add(Y, Tree("Sub"))})
        check(InvalidTemplate, {"word": "twice", "fault": "size"}, {"twice": call("f", *[Tree("Sub")] * 60)})
        check(InvalidTemplate, {"word": "twice", "fault": "name", "item": "y"}, {"twice": p_add(Y, p_num(Word("y")))})

    def test_later_changes_of_the_dict(self):
        templates = {"twice": X}
        fixer = Fixer(RULES, templates)
        templates["twice"] = p_neg(X)
        templates["swap"] = p_add(Y, X)
        self.assertEqual(list(templates), ["twice", "swap"])
        self.assertEqual((fixer.fixable, fixer.template("twice").text), (("twice",), "x"))
        self.assertEqual(fixer.finish(negs(3))[0], ONE)

    def test_fixers_are_equal_to_themselves_only(self):
        self.check_equal(FIXER, FIXER)
        self.check_unequal(FIXER, Fixer(RULES, {}))
        self.assertRaises(TypeError, lambda: FIXER & FIXER)

    def test_by_name(self):
        fixer = Fixer(templates={"twice": X}, rules=RULES)
        tree = add(negs(3), ONE)
        self.assertEqual(fixer.fix(finding=found("twice", (0,), tree), tree=tree), add(ONE, ONE))
        self.assertEqual(fixer.finish(order="inner", tree=tree), (add(ONE, ONE), (("twice", (0,)),)))
        self.assertEqual((fixer.settles(name="twice"), fixer.shrinks(name="twice")), (False, True))

    def test_a_template_of_several_fixers(self):
        other = RuleSet(make_schema(), Rule("same", p_add(X, X)))
        root = p_neg(X)
        one, two = Fixer(RULES, {"twice": root}), Fixer(other, {"same": root})
        self.assertEqual(two.finish(add(ONE, ONE))[0], neg(ONE))
        self.check_raises(TooLong, {"limit": 400}, lambda: make_fixer({"a": X}, {"a": X}).finish(ONE))
        self.assertEqual(one.finish(negs(4)), (neg(ONE), (("twice", ()), ("twice", ()))))


class FixTest(Case):

    def test_one_fix(self):
        tree = add(negs(3), neg(ONE))
        self.assertEqual(FIXER.fix(tree, found("twice", (0,), tree)), add(ONE, neg(ONE)))
        self.assertEqual(FIXER.fix(tree, found("swap", (), tree)), add(neg(ONE), negs(3)))
        self.assertEqual(FIXER.fix(neg(ONE), found("top", (), neg(ONE))), ONE)
        self.assertEqual(tree, add(negs(3), neg(ONE)))

    def test_texts_rests_and_copies(self):
        tree = let("v", ONE, (PASS,), (TWO, THREE))
        self.assertEqual(FIXER.fix(tree, found("let", (), tree)), let("v", ONE, (), (ONE, TWO, THREE)))
        tree = let("v", ONE, (let("a", TWO),), ())
        self.assertEqual(FIXER.fix(tree, found("let", (1,), tree)), let("v", ONE, (let("a", TWO, (), (TWO,)),), ()))
        fixer = make_fixer({"a": p_call(W, X, R)}, {"a": p_call("f", p_call(W, R), p_num(W), X, X, R)})
        tree = call("g", ONE, TWO, THREE)
        self.assertEqual(fixer.fix(tree, found("a", (), tree, fixer.rules)),
                         call("f", call("g", TWO, THREE), num("g"), ONE, ONE, TWO, THREE))
        fixer = make_fixer({"a": p_neg(X)}, {"a": add(ONE, TWO)})
        self.assertEqual(fixer.fix(neg(neg(ONE)), Finding("a", (0,), {"x": ONE})), neg(add(ONE, TWO)))

    def test_several_fixes(self):
        tree = call("f", negs(3), add(ONE, TWO), neg(negs(4)))
        found_here = [found("swap", (1,), tree), found("twice", (2, 0), tree), found("twice", (0,), tree)]
        wanted = call("f", ONE, add(TWO, ONE), negs(3))
        self.assertEqual(FIXER.fix_all(tree, *found_here), wanted)
        self.assertEqual(FIXER.fix_all(tree, *found_here[::-1]), wanted)
        self.assertEqual(FIXER.fix_all(tree), tree)
        self.assertEqual(FIXER.fix_all(tree, found_here[2]), FIXER.fix(tree, found_here[2]))
        self.assertEqual(tree, call("f", negs(3), add(ONE, TWO), neg(negs(4))))

    def test_findings_that_were_made_elsewhere(self):
        tree = add(negs(3), ONE)
        self.assertEqual(FIXER.fix(tree, Finding("twice", (0,), {"x": ONE})), add(ONE, ONE))
        binding = {"x": negs(3), "y": ONE}
        finding = Finding("swap", (), binding)
        binding["x"] = ONE
        self.assertEqual(FIXER.fix(tree, finding), add(ONE, negs(3)))

    def test_wrong_trees(self):
        for tree, place in ((Tree("Sub"), ()), (add(ONE, PASS), ()), (add(ONE, neg(Tree("Num"))), (1, 0))):
            self.check_raises(WrongTree, {}, lambda: FIXER.fix(tree, None))
            self.check_raises(WrongTree, {}, lambda: FIXER.fix_all(tree, None))
            self.check_raises(WrongTree, {}, lambda: FIXER.finish(tree, None))
            try:
                FIXER.fix_all(tree, None)
            except WrongTree as error:
                self.assertEqual(error.place, place)

    def test_values_that_are_no_findings(self):
        tree = add(negs(3), ONE)
        right = found("twice", (0,), tree)
        values = odd_arguments() + some_things() + [
            ("a pair", ("twice", (0,))), ("a list of it", [right]), ("a rule", RULES["twice"]), ("a class", Finding)]
        for label, value in odd_arguments() + [("another name", "none"), ("no template", "any"), ("no text", "")]:
            values.append(("a name: " + label, Finding(value, (0,), {"x": ONE})))
        for label, value in odd_arguments() + [("another path", (2,)), ("the root", ()), ("a deep path", (0, 0))]:
            values.append(("a path: " + label, Finding("twice", value, {"x": ONE})))
        for label, value in odd_arguments() + [
                ("no names", {}), ("another name", {"y": ONE}), ("another thing", {"x": TWO}),
                ("a Like", {"x": Like("Num", "1")}), ("a text", {"x": "1"}), ("two names", {"x": ONE, "y": ONE}),
                ("a row", {"x": (ONE,)}), ("a deep thing", {"x": nested(tuple)}),
                ("a long thing", {"x": repeated(tuple)})]:
            values.append(("a binding: " + label, Finding("twice", (0,), value)))
        for label, value in values:
            with self.subTest(label):
                self.check_raises(WrongFinding, {"spot": 0}, lambda: FIXER.fix(tree, value))
                self.check_raises(WrongFinding, {"spot": 0}, lambda: FIXER.fix_all(tree, value, right))
                self.check_raises(WrongFinding, {"spot": 2}, lambda: FIXER.fix_all(tree, right, right, value, None))

    def test_findings_for_which_the_condition_does_not_hold(self):
        tree = add(neg(ONE), ONE)
        self.check_raises(WrongFinding, {"spot": 0}, lambda: FIXER.fix(tree, Finding("top", (0,), {"w": "1"})))
        self.assertEqual(FIXER.fix(neg(ONE), Finding("top", (), {"w": "1"})), ONE)
        # The finding is one of another tree.
        self.check_raises(WrongFinding, {"spot": 0},
                          lambda: FIXER.fix(negs(3, TWO), found("twice", (), negs(3))))

    def test_rows_and_texts_of_bindings(self):
        tree = let("v", ONE, (PASS,), (TWO, THREE))
        binding = found("let", (), tree).binding
        self.assertEqual(FIXER.fix(tree, Finding("let", (), dict(binding))).text,
                         'Let("v", Num("1"), [], [Num("1"), Num("2"), Num("3")])')
        for name, value in (("w", "u"), ("w", ONE), ("q", [TWO, THREE]), ("q", (TWO,)), ("q", (TWO, THREE, ONE)),
                            ("r", ()), ("r", PASS), ("q", (TWO, repeated(list))), ("w", nested(list)),
                            ("q", (TWO, Agreeable())), ("w", Agreeable())):
            wrong = Finding("let", (), {**binding, name: value})
            self.check_raises(WrongFinding, {"spot": 0}, lambda: FIXER.fix(tree, wrong))

    def test_overlaps(self):
        tree = add(negs(5), add(ONE, negs(3)))
        top, deep, low = found("swap", (), tree), found("twice", (0,), tree), found("twice", (0, 0), tree)
        right, last = found("swap", (1,), tree), found("twice", (1, 1), tree)
        for findings, one, other in (
                ((deep, deep), 0, 1), ((top, deep), 0, 1), ((deep, low), 0, 1), ((low, deep), 0, 1),
                ((low, right, deep), 0, 2), ((low, right, last), 1, 2), ((right, low, last, deep), 0, 2),
                ((low, last, right, deep), 0, 3), ((last, low, top, right), 0, 2), ((low, last, last, low), 0, 3)):
            self.check_raises(Overlap, {"one": one, "other": other}, lambda: FIXER.fix_all(tree, *findings))
        # All findings are looked at before any overlap.
        self.check_raises(WrongFinding, {"spot": 2}, lambda: FIXER.fix_all(tree, deep, deep, None))

    def test_results_that_are_too_large(self):
        fixer = make_fixer({"two": p_neg(X), "none": p_add(X, Y)}, {"two": p_add(X, X), "none": ONE})
        row = [num(str(number)) for number in range(197)]
        tree = call("f", neg(call("g", *row)))
        self.assertEqual(len(tree), 200)
        result = fixer.fix(tree, found("two", (0,), tree, fixer.rules))
        self.assertEqual(len(result), 1 + 1 + 2 * 198)
        tree = call("f", neg(call("g", *row, ONE)))
        self.assertEqual(len(fixer.fix(tree, found("two", (0,), tree, fixer.rules))), 400)
        tree = call("f", neg(call("g", *row, ONE)), TWO)
        self.check_raises(InvalidTree, {"part": "size"},
                          lambda: fixer.fix(tree, found("two", (0,), tree, fixer.rules)))
        self.check_raises(Overlap, {"one": 0, "other": 1}, lambda: fixer.fix_all(
            tree, *[found("two", (0,), tree, fixer.rules)] * 2))

    def test_a_set_fits_although_one_fix_alone_does_not(self):
        fixer = make_fixer({"two": p_neg(X), "none": p_add(X, Y)}, {"two": p_add(X, X), "none": ONE})
        row = [num(str(number)) for number in range(149)]
        tree = call("f", neg(call("g", *row)), add(call("h", *row), ONE))
        self.assertEqual(len(tree), 1 + 151 + 152)
        grow, cut = [found(name, path, tree, fixer.rules) for name, path in (("two", (0,)), ("none", (1,)))]
        self.check_raises(InvalidTree, {"part": "size"}, lambda: fixer.fix(tree, grow))
        twice = call("g", *row)
        for findings in ((grow, cut), (cut, grow)):
            self.assertEqual(fixer.fix_all(tree, *findings), call("f", add(twice, twice), ONE))

    def test_levels_of_results(self):
        fixer = make_fixer({"deep": p_neg(X), "cut": p_add(X, Y)}, {"deep": p_neg(p_neg(X)), "cut": Y})
        self.assertEqual(fixer.fix(negs(99), Finding("deep", (), {"x": negs(98)})), negs(100))
        self.check_raises(InvalidTree, {"part": "size"},
                          lambda: fixer.fix(negs(100), Finding("deep", (), {"x": negs(99)})))
        self.check_raises(InvalidTree, {"part": "size"}, lambda: fixer.fix(
            negs(100), Finding("deep", (0,) * 98, {"x": ONE})))


class SettlesTest(Case):

    def test_settles(self):
        for pattern, template, wanted in (
                (TWICE, X, False), (TWICE, p_neg(X), False), (p_neg(p_num(W)), p_num(W), True),
                (p_add(ONE, X), p_neg(X), True), (p_add(ONE, X), p_add(X, TWO), False),
                (p_add(ONE, X), p_add(TWO, X), True), (p_add(X, X), p_add(X, p_neg(X)), True),
                (p_add(X, Y), p_add(Y, X), False), (p_call(W, X, R), p_call(W, R), False),
                (p_call(W, X, R), p_call(W), True), (p_call("f", R), p_call("g", R), True),
                (p_num(W), ONE, False), (p_num("1"), TWO, True)):
            fixer = make_fixer({"a": pattern}, {"a": template})
            self.assertIs(fixer.settles("a"), wanted)

    def test_shrinks(self):
        for pattern, template, wanted in (
                (TWICE, X, True), (TWICE, p_neg(X), True), (TWICE, TWICE, False), (p_neg(X), p_neg(X), False),
                (p_add(X, Y), p_neg(X), False), (p_add(p_neg(X), Y), p_add(X, X), False),
                (p_add(p_neg(X), Y), p_neg(Y), True), (p_add(p_neg(X), Y), p_neg(p_neg(Y)), False),
                (p_add(p_neg(X), X), p_add(X, X), True), (p_neg(p_num(W)), p_num(W), True),
                # Texts do not count, rests do.
                (p_neg(p_neg(p_num(W))), p_call(W, p_num(W)), True),
                (p_call(W, p_neg(X), R), p_call(W, R), True), (p_call(W, X, R), p_call(W, R), False),
                (p_call(W, ONE, TWO, R), p_call(W, p_call("g", R), R), False),
                (p_call(W, ONE, TWO, THREE, R), p_call(W, p_call("g", R), ONE), True),
                (p_add(ONE, TWO), ONE, True), (add(ONE, TWO), add(TWO, ONE), False), (X, X, False), (X, ONE, False),
                (p_add(p_add(X, Y), ONE), p_add(Y, X), True)):
            fixer = make_fixer({"a": pattern}, {"a": template})
            self.assertIs(fixer.shrinks("a"), wanted)

    def test_conditions_do_not_matter(self):
        rules = RuleSet(SCHEMA, Rule("a", TWICE, Has(ONE)))
        fixer = Fixer(rules, {"a": X})
        self.assertEqual((fixer.settles("a"), fixer.shrinks("a")), (False, True))


class FinishTest(Case):

    def test_orders(self):
        fixer = make_fixer({"twice": TWICE, "add": p_add(ONE, X)}, {"twice": X, "add": X})
        tree = neg(neg(add(ONE, neg(neg(add(ONE, TWO))))))
        outer = (("twice", ()), ("add", ()), ("twice", ()), ("add", ()))
        inner = (("add", (0, 0, 1, 0, 0)), ("twice", (0, 0, 1)), ("add", (0, 0)), ("twice", ()))
        self.assertEqual(fixer.finish(tree), (TWO, outer))
        self.assertEqual(fixer.finish(tree, "outer"), (TWO, outer))
        self.assertEqual(fixer.finish(tree, "inner"), (TWO, inner))
        for order in ("outer", "inner"):
            found_pair = fixer.finish(tree, order)
            self.assertIs(type(found_pair), tuple)
            self.assertIs(type(found_pair[1]), tuple)
            self.assertEqual(fixer.finish(ONE, order), (ONE, ()))

    def test_paths_beside_each_other(self):
        fixer = make_fixer({"twice": TWICE}, {"twice": X})
        tree = call("f", negs(3), neg(negs(3)), negs(4))
        self.assertEqual(fixer.finish(tree, "outer")[1], (("twice", (0,)), ("twice", (1,)), ("twice", (2,))))
        self.assertEqual(fixer.finish(tree, "inner")[1], (("twice", (0,)), ("twice", (1, 0)), ("twice", (2, 0))))

    def test_a_node_comes_behind_all_below_it(self):
        fixer = make_fixer({"drop": p_add(X, Y)}, {"drop": Y})
        tree = add(add(ONE, TWO), add(TWO, THREE))
        self.assertEqual(fixer.finish(tree, "inner"), (THREE, (("drop", (0,)), ("drop", (1,)), ("drop", ()))))
        self.assertEqual(fixer.finish(tree, "outer"), (THREE, (("drop", ()), ("drop", ()))))

    def test_the_order_of_the_rules(self):
        rules = {"one": p_neg(X), "two": p_neg(Y)}
        fixer = make_fixer(rules, {"one": ONE, "two": TWO}, ("two", "one"))
        self.assertEqual(fixer.finish(neg(THREE)), (ONE, (("one", ()),)))
        self.assertEqual(fixer.fixable, ("one", "two"))
        # A rule without a template makes no fix.
        fixer = make_fixer(rules, {"two": TWO})
        self.assertEqual(fixer.finish(neg(THREE)), (TWO, (("two", ()),)))
        self.assertEqual(make_fixer(rules, {}).finish(negs(5)), (negs(5), ()))

    def test_fixes_for_which_conditions_begin_or_cease_to_hold(self):
        rules = RuleSet(
            SCHEMA, Rule("inside", p_num("1"), Inside(p_neg(X))), Rule("has", p_neg(X), Has(TWO)),
            Rule("late", p_num("3"), -Inside(p_neg(X))))
        fixer = Fixer(rules, {"inside": TWO, "has": X, "late": p_num("4")})
        tree = add(neg(ONE), THREE)
        four = num("4")
        self.assertEqual(fixer.finish(tree, "outer"),
                         (add(TWO, four), (("inside", (0, 0)), ("has", (0,)), ("late", (1,)))))
        self.assertEqual(fixer.finish(neg(add(ONE, THREE))),
                         (add(TWO, four), (("inside", (0, 0)), ("has", ()), ("late", (1,)))))
        self.assertEqual(fixer.finish(neg(add(THREE, ONE)), "inner"),
                         (add(four, TWO), (("inside", (0, 1)), ("has", ()), ("late", (0,)))))

    def test_400_fixes_and_one_more(self):
        fixer = make_fixer({"drop": p_call("f", X, R)}, {"drop": p_call("f", R)})
        for order in ("outer", "inner"):
            tree = call("f", *[ONE] * 399)
            last, steps = fixer.finish(tree, order)
            self.assertEqual((last, steps), (call("f"), (("drop", ()),) * 399))
        half = make_fixer({"again": p_num("a"), "more": p_num("b")}, {"again": p_num("b"), "more": p_num("c")})
        tree = call("f", *[num("a")] * 200)
        self.assertEqual(len(half.finish(tree)[1]), 400)
        self.assertEqual(half.finish(tree, "inner")[0], call("f", *[num("c")] * 200))
        for more in (num("a"), num("b")):
            for order in ("outer", "inner"):
                self.check_raises(TooLong, {"limit": 400}, lambda: half.finish(call("f", *tree.parts[1], more), order))

    def test_fixes_without_an_end(self):
        for pattern, template in ((X, X), (p_add(X, Y), p_add(Y, X)), (p_num(W), p_num(W))):
            fixer = make_fixer({"a": pattern}, {"a": template})
            self.check_raises(TooLong, {"limit": 400}, lambda: fixer.finish(add(ONE, TWO)))
            self.check_raises(TooLong, {"limit": 400}, lambda: fixer.finish(add(ONE, TWO), "inner"))

    def test_trees_on_the_way_that_are_too_large(self):
        fixer = make_fixer({"grow": p_call("f", R)}, {"grow": p_call("f", ONE, R)})
        # 399 fixes lead to 400 nodes; the next tree has one more.
        self.check_raises(InvalidTree, {"part": "size"}, lambda: fixer.finish(call("f")))
        deep = make_fixer({"deep": p_neg(X)}, {"deep": p_neg(p_neg(X))})
        self.check_raises(InvalidTree, {"part": "size"}, lambda: deep.finish(neg(ONE)))
        # Whichever is met first: here the fixes go on until there are too many.
        slow = make_fixer({"one": p_num("a"), "two": p_call("f", p_num("b"), R)},
                          {"one": p_num("b"), "two": p_call("f", p_num("a"), ONE, R)})
        self.check_raises(TooLong, {"limit": 400}, lambda: slow.finish(call("f", num("a"))))
        self.check_raises(InvalidTree, {"part": "size"}, lambda: slow.finish(call("f", num("a"), *[ONE] * 250)))
        # A later fix could make it small again.
        both = make_fixer({"two": p_neg(X), "cut": p_add(X, Y)}, {"two": p_add(X, X), "cut": ONE})
        self.check_raises(InvalidTree, {"part": "size"}, lambda: both.finish(neg(call("g", *[ONE] * 210))))

    def test_orders_that_are_none(self):
        for label, value in odd_arguments() + [("another text", "Outer"), ("no text", ""), ("both", "outerinner")]:
            with self.subTest(label):
                self.check_raises(InvalidOrder, {"value": value}, lambda: FIXER.finish(add(ONE, TWO), value))
                self.check_raises(InvalidOrder, {"value": value}, lambda: FIXER.finish(order=value, tree=ONE))


class OverlapTest(Case):

    def test_do_overlap(self):
        for one, other, wanted in (((), (), True), ((), (0,), True), ((0,), (), True), ((0, 1), (0, 1), True),
                                   ((0,), (0, 1, 2), True), ((0, 1, 2), (0, 1), True), ((0,), (1,), False),
                                   ((0, 1), (0, 2), False), ((1, 0), (0,), False), ((0,), (1, 0), False),
                                   ((0, 1, 2), (0, 2), False), ((10,), (1,), False)):
            found_one, found_other = Finding("a", one, {}), Finding("b", other, {"x": ONE})
            self.assertIs(do_overlap(found_one, found_other), wanted)
            self.assertIs(do_overlap(other=found_one, one=found_other), wanted)

    def test_innermost_and_outermost(self):
        def check(paths, inner, outer):
            findings = [Finding("r" + str(number), path, {}) for number, path in enumerate(paths)]
            given = list(findings)
            for kind in (list, tuple):
                self.assertEqual([given.index(one) for one in innermost(kind(findings))], inner)
                self.assertEqual([given.index(one) for one in outermost(kind(findings))], outer)
            self.assertIs(type(innermost(findings)), list)
            self.assertIs(type(outermost(tuple(findings))), list)
            self.assertEqual(findings, given)
        check([], [], [])
        check([()], [0], [0])
        check([(), (0,), (1,)], [1, 2], [0])
        check([(1,), (), (0,)], [0, 2], [1])
        check([(0,), (0,), (0,)], [0], [0])
        check([(0, 0), (0,), (0, 0), (1,), ()], [0, 3], [4])
        check([(0, 1), (1,), (0, 0, 0), (0, 0), (2, 2)], [0, 1, 2, 4], [0, 1, 3, 4])
        check([(0,), (0, 0, 0, 0), (1,), (1,)], [1, 2], [0, 2])
        check([(), ()], [0], [0])

    def test_by_name(self):
        findings = [Finding("a", (), {}), Finding("b", (0,), {})]
        self.assertEqual((innermost(findings=findings), outermost(findings=findings)), (findings[1:], findings[:1]))
        innermost(findings).clear()
        self.assertEqual(len(innermost(findings)), 1)


class FindingTest(Case):

    def test_any_binding(self):
        for value in (None, 1, "x", (), [("x", ONE)]):
            self.assertEqual(Finding("a", (), value).binding, value)
        self.check_unequal(Finding("a", (), None), Finding("a", (), {}))


if __name__ == "__main__":
    unittest.main()
