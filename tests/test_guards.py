"""Tests of ruleengine.guards, worked out by hand."""

import unittest

from ruleengine.conditions import Has, Inside
from ruleengine.errors import InvalidAnswer, InvalidGuard, InvalidPath, OtherSchema, UnknownName, WrongTree
from ruleengine.flows import Flow, Plan
from ruleengine.forms import Form, Schema
from ruleengine.guards import FlowRules, Guard, Later, Reached, Unset
from ruleengine.rules import Finding, Rule, RuleSet
from ruleengine.trees import Like, Rest, Tree, Var, Word
from tests.helpers import Agreeable, Case, nested, odd_arguments, repeated


def make_schema():
    """The schema, made anew."""
    return Schema(
        Form("Seq", "stmt", items="stmt*"), Form("If", "stmt", one="stmt", two="stmt"),
        Form("While", "stmt", body="stmt"), Form("Set", "stmt", word="text"), Form("Use", "stmt", word="text"),
        Form("Stop", "stmt"), Form("Copy", "stmt", source="text", goal="text"))


SCHEMA = make_schema()
PLANS = {"If": Plan("choice"), "While": Plan("loop"), "Set": Plan(sets="word"), "Use": Plan(uses="word"),
         "Stop": Plan("stop"), "Copy": Plan(sets="goal")}
FLOW = Flow(SCHEMA, PLANS)
STOP = Tree("Stop")
N = Word("n")


def seq(*items):
    return Tree("Seq", items)


def put(word):
    return Tree("Set", word)


def use(word):
    return Tree("Use", word)


def loop(body):
    return Tree("While", body)


def choice(one, two):
    return Tree("If", one, two)


RULES = RuleSet(
    SCHEMA, Rule("any", Var("x"), sort="stmt"), Rule("set", Like("Set", N)), Rule("use", Like("Use", N)),
    Rule("copy", Like("Copy", Word("a"), Word("b"))), Rule("pair", Like("Seq", (Like("Set", N), Var("v"), Rest("r")))),
    Rule("inner", Like("Use", N), Inside(Like("Seq", (Rest("r"),)))))
# If b then nothing more is done; the loop may never be entered.
TREE = seq(choice(put("a"), STOP), use("a"), loop(use("b")))


def guarded(**guards):
    """The rules with guards, which are given by the names of their rules."""
    return FlowRules(RULES, FLOW, guards)


def paths(rules, tree, name):
    """The paths at which a rule finds nodes."""
    return [one.path for one in rules.run(tree) if one.rule == name]


class RunTest(Case):

    def test_reached(self):
        rules = guarded(any=Reached(), use=-Reached())
        self.assertEqual(paths(rules, TREE, "any"), list(TREE.each_path()))
        self.assertEqual(paths(rules, TREE, "use"), [])
        tree = seq(put("a"), STOP, use("a"), loop(use("b")))
        self.assertEqual(paths(rules, tree, "any"), [(), (0,), (1,)])
        self.assertEqual(paths(rules, tree, "use"), [(2,), (3, 0)])
        # The root is reached whatever it is.
        self.assertEqual(paths(guarded(any=Reached()), STOP, "any"), [()])
        self.assertEqual(paths(guarded(any=-Reached()), STOP, "any"), [])

    def test_unset(self):
        rules = guarded(use=Unset("n"), set=Unset("n"))
        self.assertEqual(paths(rules, TREE, "use"), [(2, 0)])
        # A way may end at a deed that it avoids, but it goes through none.
        self.assertEqual(paths(rules, TREE, "set"), [(0, 0)])
        self.assertEqual(paths(rules, seq(put("a"), put("a"), put("b")), "set"), [(0,), (2,)])
        self.assertEqual(paths(rules, loop(seq(use("a"), put("a"))), "use"), [(0, 0)])
        self.assertEqual(paths(rules, seq(choice(put("a"), put("b")), use("a"), use("b")), "use"), [(1,), (2,)])
        # What is not done is not unset either.
        self.assertEqual(paths(rules, seq(STOP, use("a")), "use"), [])

    def test_later(self):
        rules = guarded(set=Later("n"), use=Later("n"))
        self.assertEqual(paths(rules, TREE, "set"), [(0, 0)])
        self.assertEqual(paths(rules, seq(put("a"), put("b"), put("a"), use("a")), "set"), [(2,)])
        # The loop leads back to the use, also from the use itself.
        self.assertEqual(paths(rules, loop(seq(use("a"), put("a"))), "set"), [(0, 1)])
        self.assertEqual(paths(rules, loop(use("a")), "use"), [(0,)])
        self.assertEqual(paths(rules, seq(use("a")), "use"), [])
        self.assertEqual(paths(rules, loop(seq(put("a"), use("a"))), "use"), [])
        # It does not matter if the node is ever done.
        self.assertEqual(paths(rules, seq(STOP, put("a"), use("a")), "set"), [(1,)])
        self.assertEqual(paths(rules, seq(put("a"), STOP, use("a")), "set"), [])

    def test_words_of_the_rule(self):
        copies = seq(put("a"), Tree("Copy", "a", "b"), use("a"), use("b"))
        self.assertEqual(paths(guarded(copy=Later("a")), copies, "copy"), [(1,)])
        self.assertEqual(paths(guarded(copy=Later("b")), copies, "copy"), [(1,)])
        self.assertEqual(paths(guarded(copy=Unset("a")), copies, "copy"), [])
        self.assertEqual(paths(guarded(copy=Unset("b")), copies, "copy"), [(1,)])
        other = seq(Tree("Copy", "a", "b"), put("a"), use("a"))
        self.assertEqual(paths(guarded(copy=Later("a")), other, "copy"), [])
        self.assertEqual(paths(guarded(copy=Later("b")), other, "copy"), [])
        # The node of the rule is the sequence: its deed comes behind those of all its items.
        self.assertEqual(paths(guarded(pair=Unset("n")), seq(put("a"), use("b")), "pair"), [])
        self.assertEqual(paths(guarded(pair=Later("n")), loop(seq(put("a"), use("a"))), "pair"), [])
        self.assertEqual(paths(guarded(pair=Later("n")), seq(seq(put("a"), STOP), use("a")), "pair"), [(0,)])

    def test_joined_guards(self):
        tree = seq(put("a"), put("b"), use("a"), STOP, put("a"), use("b"))
        for guard, wanted in (
                (Reached() & Later("n"), [(0,)]), (Reached() & -Later("n"), [(1,)]),
                (-Reached() | Later("n"), [(0,), (4,)]), (-(Reached() | Later("n")), [(4,)]),
                (-(Reached() & Later("n")), [(1,), (4,)]), (-(-Later("n")), [(0,)]),
                (Reached() & Reached() & -Later("n"), [(1,)]), (Unset("n") & Reached(), [(0,), (1,)]),
                (Unset("n") | -Unset("n"), [(0,), (1,), (4,)]), (Later("n") & -Later("n"), [])):
            self.assertEqual(paths(guarded(set=guard), tree, "set"), wanted)

    def test_order_and_rules_without_guards(self):
        tree = seq(put("a"), STOP, use("a"))
        found = list(guarded(any=-Reached(), set=Reached(), use=-Later("n")).run(tree))
        self.assertEqual(found, [
            Finding("pair", (), {"n": "a", "v": STOP, "r": (use("a"),)}), Finding("set", (0,), {"n": "a"}),
            Finding("any", (2,), {"x": use("a")}), Finding("use", (2,), {"n": "a"}),
            Finding("inner", (2,), {"n": "a"})])
        self.assertEqual([type(one) for one in found], [Finding] * 5)
        self.assertEqual(list(FlowRules(RULES, FLOW, {}).run(tree=tree)), list(RULES.run(tree)))

    def test_conditions_and_guards(self):
        rules = guarded(inner=-Unset("n"))
        self.assertEqual(paths(rules, seq(put("a"), use("a"), use("b")), "inner"), [(1,)])
        self.assertEqual(paths(rules, loop(use("a")), "inner"), [])

    def test_wrong_trees_are_told_first(self):
        rules = guarded(any=Reached())
        for tree, place in ((Tree("Sub"), ()), (seq(STOP, Tree("Use")), (1,)), (Tree("While", "a"), ())):
            seen = []
            try:
                for finding in rules.run(tree):
                    seen.append(finding)
            except WrongTree as error:
                self.assertEqual((error.place, seen), (place, []))
            self.check_raises(WrongTree, {}, lambda: list(rules.run(tree)))

    def test_two_runs_at_once(self):
        rules = guarded(any=Reached(), set=Later("n"))
        other = seq(put("a"), loop(use("a")))
        alone, beside = list(rules.run(TREE)), list(rules.run(other))
        self.assertEqual([(one, two) for one in rules.run(TREE) for two in rules.run(other)],
                         [(one, two) for one in alone for two in beside])
        first, second = iter(rules.run(TREE)), iter(rules.run(TREE))
        self.assertEqual([(next(first), next(second)) for _ in alone], list(zip(alone, alone)))

    def test_properties(self):
        rules = guarded()
        self.assertIs(rules.rules, RULES)
        self.assertIs(rules.flow, FLOW)
        other = Flow(make_schema(), PLANS)
        self.assertIs(FlowRules(RULES, other, {}).flow, other)

    def test_later_changes_of_the_dict(self):
        guards = {"set": Later("n")}
        rules = FlowRules(RULES, FLOW, guards)
        guards["set"] = Reached()
        guards["use"] = -Reached()
        self.assertEqual(list(guards), ["set", "use"])
        self.assertEqual(paths(rules, seq(put("a"), use("b")), "set"), [])
        self.assertEqual(paths(rules, seq(put("a"), use("b")), "use"), [(1,)])

    def test_by_name(self):
        rules = FlowRules(guards={"set": Later(word="n") & Unset(word="n")}, flow=FLOW, rules=RULES)
        tree = seq(put("a"), use("a"))
        self.assertEqual(paths(rules, tree, "set"), [(0,)])
        answer = rules.judge(path=(0,), tree=tree, name="set")
        self.assertEqual(rules.check(answer=answer, path=(0,), tree=tree, name="set"), "found")


class JoinTest(Case):

    def test_kinds(self):
        one, other = Reached(), Later("n")
        for guard in (one, other, Unset("n"), one & other, one | other, -one):
            self.assertIsInstance(guard, Guard)
            self.assertIsInstance(guard & one, Guard)
            self.assertIsInstance(one | guard, Guard)
            self.assertIsInstance(-guard, Guard)

    def test_other_values(self):
        values = odd_arguments() + [("a condition", Has(Like("Use", N))), ("a class", Reached)]
        for label, value in values:
            with self.subTest(label):
                for guard in (Reached(), Unset("n"), Later("n"), Reached() & Later("n"), -Reached()):
                    for join in (lambda: guard & value, lambda: guard | value, lambda: value & guard,
                                 lambda: value | guard):
                        # An object of the caller may have operators of its own.
                        if label != "a set":
                            self.assertRaises(TypeError, join)
        for guard in (Reached(), Later("n")):
            self.assertRaises(TypeError, lambda: guard < guard)
            self.assertRaises(TypeError, lambda: guard + guard)
            self.assertRaises(TypeError, lambda: len(guard))

    def test_guards_are_equal_to_themselves_only(self):
        one = Later("n")
        for guard in (Reached(), Unset("n"), Later("n"), one & one, -one):
            self.check_equal(guard, guard)
            self.check_unequal(guard, one)
        self.check_unequal(Reached(), Reached())
        self.check_unequal(guarded(), guarded())
        self.assertTrue(guarded() != FLOW)

    def test_a_guard_of_several_sets(self):
        guard = Reached() & Later("n")
        other = RuleSet(SCHEMA, Rule("use", Like("Use", Word("n"))), Rule("set", Like("Set", Word("n"))))
        tree = seq(put("a"), use("a"))
        rules = FlowRules(RULES, FLOW, {"set": guard, "use": guard})
        also = FlowRules(other, Flow(make_schema(), {"Set": Plan(uses="word"), "Use": Plan(sets="word")}),
                         {"set": guard, "use": guard})
        self.assertEqual(paths(rules, tree, "set"), [(0,)])
        self.assertEqual(paths(also, tree, "set"), [])
        self.assertEqual(paths(also, seq(use("a"), put("a")), "use"), [(0,)])
        self.assertEqual(paths(rules, tree, "set"), [(0,)])


class GuardErrorTest(Case):

    def test_other_schemas(self):
        other = Flow(Schema(Form("Seq", "stmt", items="stmt*")), {})
        for guards in ({}, {"none": Reached()}, {"set": None}, {"set": Later("m")}):
            self.check_raises(OtherSchema, {}, lambda: FlowRules(RULES, other, guards))
        FlowRules(RULES, Flow(make_schema(), PLANS), {"set": Later("n")})

    def test_unknown_names(self):
        for label, value in odd_arguments() + [("a text", "none"), ("no text", ""), ("a form", "Set")]:
            if isinstance(value, (list, dict, set)) or "deep" in label or "long" in label or label in (
                    "a tuple of a list",):
                continue
            with self.subTest(label):
                self.check_raises(UnknownName, {"word": value}, lambda: FlowRules(RULES, FLOW, {value: Reached()}))

    def test_values_that_are_no_guards(self):
        for label, value in odd_arguments() + [
                ("a class", Reached), ("a word", "n"), ("a tuple", (Reached(),)), ("a condition", Has(Like("Use", N))),
                ("a plan", Plan())]:
            with self.subTest(label):
                self.check_raises(InvalidGuard, {"word": "set", "item": None},
                                  lambda: FlowRules(RULES, FLOW, {"set": value}))

    def test_words_that_are_no_words_of_the_rule(self):
        for label, value in odd_arguments() + [
                ("another name", "m"), ("no name", ""), ("a variable", N), ("a text", "$n")]:
            with self.subTest(label):
                for guard in (Unset(value), Later(value), -Unset(value), Reached() & Later(value),
                              Later("n") | (Reached() & -Unset(value))):
                    self.check_raises(InvalidGuard, {"word": "set", "item": value},
                                      lambda: FlowRules(RULES, FLOW, {"set": guard}))
        # Variables for nodes and rests are no Words.
        for word in ("x", "v", "r"):
            self.check_raises(InvalidGuard, {"word": "pair", "item": word},
                              lambda: FlowRules(RULES, FLOW, {"pair": Later(word)}))

    def test_the_first_wrong_word(self):
        for guard, word in ((Later("p") & Unset("q"), "p"), (Unset("n") | Later("q") | Later("p"), "q"),
                            (-(Reached() & -Unset("q")) & Later("p"), "q"),
                            ((Later("n") & Later("p")) | Later("q"), "p"),
                            (Later("n") & (Later("q") | Later("p")), "q")):
            self.check_raises(InvalidGuard, {"word": "set", "item": word},
                              lambda: FlowRules(RULES, FLOW, {"set": guard}))

    def test_the_first_wrong_entry(self):
        self.check_raises(UnknownName, {"word": "none"}, lambda: guarded(set=Reached(), none=Later("p"), use=None))
        self.check_raises(InvalidGuard, {"word": "use", "item": None},
                          lambda: guarded(set=Reached(), use=None, none=Reached()))
        self.check_raises(InvalidGuard, {"word": "set", "item": "p"}, lambda: guarded(set=Later("p"), use=None))
        self.check_raises(InvalidGuard, {"word": "use", "item": None}, lambda: guarded(use=None, set=Later("p")))

    def test_guards_that_occur_very_often(self):
        guard = Later("p")
        for _ in range(45):
            guard = guard & guard
        self.check_raises(InvalidGuard, {"word": "set", "item": "p"}, lambda: guarded(set=guard))


class JudgeTest(Case):

    def check_judged(self, rules, name, path, answer, tree=TREE):
        """Check an answer, and that it is a correct one."""
        found = rules.judge(name, tree, path)
        self.assertEqual(found, answer)
        self.assertIs(type(found), tuple)
        self.assertEqual(rules.check(name, tree, path, found), answer[0])
        self.assertEqual(rules.check(name, tree, path, answer), answer[0])

    def check_refused(self, rules, name, path, answer, part, tree=TREE):
        """Check that an answer is no correct one."""
        self.check_raises(InvalidAnswer, {"part": part}, lambda: rules.check(name, tree, path, answer))

    def test_without_guards(self):
        rules = guarded()
        self.check_judged(rules, "set", (0, 0), ("found", {"n": "a"}, None, None))
        self.check_judged(rules, "set", (1,), ("not", ("mismatch", ((), None, "form"))))
        self.check_judged(rules, "inner", (1,), ("found", {"n": "a"}, ("at", (), {"r": TREE.parts[0]}, None), None))
        self.check_judged(rules, "inner", (0,), ("not", ("condition", ("nowhere", (
            ((), ("mismatch", ((), None, "form"))),)))), loop(use("a")))

    def test_grounds_of_reached(self):
        rules = guarded(any=Reached(), set=Reached())
        self.check_judged(rules, "any", (), ("found", {"x": TREE}, None, ("root",)))
        way = (((), "in"), ((0,), "in"), ((0, 0), "in"))
        self.check_judged(rules, "set", (0, 0), ("found", {"n": "a"}, None, ("path", way)))
        # To the root leads no way, and to others no root.
        self.check_refused(rules, "any", (), ("found", {"x": TREE}, None, ("path", (((), "in"),))), "guard")
        self.check_refused(rules, "any", (), ("found", {"x": TREE}, None, ("path", (((), "in"), ((), "in")))), "guard")
        self.check_refused(rules, "set", (0, 0), ("found", {"n": "a"}, None, ("root",)), "guard")

    def test_refutations_of_reached(self):
        tree = seq(STOP, use("a"))
        rules = guarded(any=Reached(), use=Reached(), set=-Reached())
        closed = (((0,), "deed"), ((0,), "in"))
        self.check_judged(rules, "use", (1,), ("not", ("guard", ("closed", closed))), tree)
        # A larger closed set, in another order and with points that stand there twice.
        more = (((1,), "out"), ((0,), "in"), ((), "deed"), ((), "out"), ((0,), "deed"), ((0,), "deed"))
        self.assertEqual(rules.check("use", tree, (1,), ("not", ("guard", ("closed", more)))), "not")
        for points in ((((0,), "in"),), (), (*closed, ((1,), "in")), (*closed, ((), "in"), ((1,), "deed"))):
            self.check_refused(rules, "use", (1,), ("not", ("guard", ("closed", points))), "guard", tree)
        self.check_judged(rules, "set", (), ("not", ("guard", ("not", ("root",)))), put("a"))
        self.check_refused(rules, "set", (), ("not", ("guard", ("not", ("path", (((), "in"),))))), "guard", put("a"))
        self.check_refused(rules, "any", (), ("not", ("guard", ("root",))), "guard", tree)
        self.check_refused(rules, "any", (), ("not", ("guard", ("closed", ()))), "guard", tree)

    def test_unset(self):
        rules = guarded(use=Unset("n"))
        closed = (((0,), "in"), ((0, 0), "deed"), ((0, 0), "in"), ((0, 1), "deed"), ((0, 1), "in"))
        self.check_judged(rules, "use", (1,), ("not", ("guard", ("closed", closed))))
        way = (((), "in"), ((0,), "in"), ((0, 0), "in"), ((0, 0), "deed"), ((0, 0), "out"), ((0,), "deed"),
               ((0,), "out"), ((1,), "in"), ((1,), "deed"), ((1,), "out"), ((2,), "in"), ((2, 0), "in"),
               ((2, 0), "deed"))
        self.check_judged(rules, "use", (2, 0), ("found", {"n": "b"}, None, ("path", way)))
        # Once more around the loop.
        around = (*way, ((2, 0), "out"), ((2, 0), "in"), ((2, 0), "deed"))
        self.assertEqual(rules.check("use", TREE, (2, 0), ("found", {"n": "b"}, None, ("path", around))), "found")
        for points in (way[1:], way[:-1], way[::-1], (*way[:4], *way[5:]), (*way, ((2, 0), "out")), (), way[:1]):
            self.check_refused(rules, "use", (2, 0), ("found", {"n": "b"}, None, ("path", points)), "guard")
        # A way through what sets the variable is none.
        through = (*way[:8], ((1,), "deed"))
        self.check_refused(rules, "use", (1,), ("found", {"n": "a"}, None, ("path", through)), "guard")

    def test_later(self):
        rules = guarded(set=Later("n"))
        way = (((0, 0), "deed"), ((0, 0), "out"), ((0,), "deed"), ((0,), "out"), ((1,), "in"), ((1,), "deed"))
        self.check_judged(rules, "set", (0, 0), ("found", {"n": "a"}, None, ("path", way)))
        tree = seq(put("a"), put("b"))
        closed = (((), "deed"), ((), "out"), ((0,), "out"), ((1,), "deed"), ((1,), "in"), ((1,), "out"))
        self.check_judged(rules, "set", (0,), ("not", ("guard", ("closed", closed))), tree)
        # Without a use each set that contains what follows is right, that of all points, too.
        self.assertEqual(rules.check("set", tree, (0,), ("not", ("guard", ("closed", FLOW.points(tree))))), "not")
        # A closed set contains no use at all; which one a way leads to does not matter.
        tree = seq(put("a"), choice(use("a"), use("a")), STOP, use("a"))
        for spot in (0, 1):
            way = (((0,), "deed"), ((0,), "out"), ((1,), "in"), ((1, spot), "in"), ((1, spot), "deed"))
            self.assertEqual(rules.check("set", tree, (0,), ("found", {"n": "a"}, None, ("path", way))), "found")
        tree = seq(put("a"), STOP, use("a"), use("a"))
        least = (((0,), "out"), ((1,), "deed"), ((1,), "in"))
        self.check_judged(rules, "set", (0,), ("not", ("guard", ("closed", least))), tree)
        for path in ((2,), (3,)):
            more = (*least, ((2,), "out"), ((3,), "in"), (path, "deed"), ((3,), "out"), ((), "deed"), ((), "out"))
            self.check_refused(rules, "set", (0,), ("not", ("guard", ("closed", more))), "guard", tree)
        self.check_judged(rules, "set", (), ("not", ("guard", ("closed", (((), "out"),)))), put("a"))
        only = guarded(any=-Reached(), pair=Later("n"))
        self.check_refused(only, "pair", (), ("not", ("guard", ("closed", ()))), "guard", tree)

    def test_a_closed_set_without_points(self):
        rules = FlowRules(RuleSet(SCHEMA, Rule("set", Like("Set", N))),
                          Flow(SCHEMA, {"Set": Plan("stop", sets="word")}), {"set": Later("n")})
        self.check_judged(rules, "set", (0,), ("not", ("guard", ("closed", ()))), seq(put("a"), use("a")))

    def test_joined_guards(self):
        tree = seq(put("a"), STOP, use("a"))
        reached = ("path", (((), "in"), ((0,), "in")))
        unset = ("path", (((), "in"), ((0,), "in"), ((0,), "deed")))
        later = ("closed", (((0,), "out"), ((1,), "deed"), ((1,), "in")))
        cases = (
            (Reached() & Unset("n"), True, ("each", reached, unset)),
            (Reached() & Later("n"), False, ("one", 1, later)),
            (Later("n") & Reached(), False, ("one", 0, later)),
            (Later("n") | Reached(), True, ("one", 1, reached)),
            (Later("n") | Later("n"), False, ("each", later, later)),
            (-Later("n"), True, ("not", later)),
            (-Reached(), False, ("not", reached)),
            (-(Later("n") & Reached()), True, ("not", ("one", 0, later))),
            (-(Later("n") | Reached()), False, ("not", ("one", 1, reached))),
            (-(-Reached()), True, ("not", ("not", reached))),
            ((Reached() & -Later("n")) | Later("n"), True, ("one", 0, ("each", reached, ("not", later)))),
        )
        for guard, is_held, evidence in cases:
            rules = guarded(set=guard)
            found = ("found", {"n": "a"}, None, evidence) if is_held else ("not", ("guard", evidence))
            self.check_judged(rules, "set", (0,), found, tree)
            other = ("not", ("guard", evidence)) if is_held else ("found", {"n": "a"}, None, evidence)
            self.check_refused(rules, "set", (0,), other, "guard", tree)
        # Both numbers are right where both hold.
        rules = guarded(set=Reached() | Unset("n"))
        for spot, evidence in ((0, reached), (1, unset)):
            answer = ("found", {"n": "a"}, None, ("one", spot, evidence))
            self.assertEqual(rules.check("set", tree, (0,), answer), "found")
            for other in (1 - spot, bool(spot), -1, 2, 10 ** 999, "0", None, (0,)):
                answer = ("found", {"n": "a"}, None, ("one", other, evidence))
                self.check_refused(rules, "set", (0,), answer, "guard", tree)


class CheckErrorTest(Case):

    RULES = guarded(set=Reached() & Unset("n"), use=Unset("n"), pair=-Reached(), any=Reached() | Reached())

    def check_refused(self, name, path, answer, part, tree=TREE):
        self.check_raises(InvalidAnswer, {"part": part}, lambda: self.RULES.check(name, tree, path, answer))

    def test_names_trees_and_paths(self):
        wrong = Tree("Use")
        for label, value in odd_arguments() + [("another name", "none"), ("a form", "Set")]:
            with self.subTest(label):
                self.check_raises(UnknownName, {"word": value}, lambda: self.RULES.judge(value, wrong, None))
                self.check_raises(UnknownName, {"word": value}, lambda: self.RULES.check(value, wrong, None, None))
        for label, value in odd_arguments() + [("another path", (3,)), ("a long path", (0,) * 20000)]:
            with self.subTest(label):
                self.check_raises(InvalidPath, {"value": value}, lambda: self.RULES.judge("set", TREE, value))
                self.check_raises(InvalidPath, {"value": value}, lambda: self.RULES.check("set", TREE, value, None))
        self.check_raises(WrongTree, {}, lambda: self.RULES.judge("set", wrong, None))
        self.check_raises(WrongTree, {}, lambda: self.RULES.check("set", wrong, None, None))

    def test_forms(self):
        grounds = self.RULES.judge("set", TREE, (0, 0))
        values = odd_arguments() + [
            ("three items", grounds[:3]), ("five items", (*grounds, None)), ("a list of it", list(grounds)),
            ("another word", ("other", *grounds[1:])), ("three for not", ("not", None, None)),
            ("found alone", ("found",)), ("a pair for found", ("found", {})),
            ("four for not", ("not", None, None, None)), ("no items", ()),
            ("a word", "found"), ("a pair with a list", (["not"], None)), ("a pair with True", (True, None)),
            ("an agreeable first item", (Agreeable(), *grounds[1:]))]
        for label, value in values:
            with self.subTest(label):
                self.check_refused("set", (0, 0), value, "form")

    def test_bindings_come_first(self):
        grounds = self.RULES.judge("set", TREE, (0, 0))[3]
        for value in ({}, {"n": "b"}, {"n": "a", "m": "a"}, None, [("n", "a")], repeated(dict), nested(dict)):
            self.check_refused("set", (0, 0), ("found", value, None, grounds), "binding")
            self.check_refused("set", (0, 0), ("found", value, 1, None), "binding")
        # The node does not fit the pattern.
        self.check_refused("set", (1,), ("found", {"n": "a"}, None, grounds), "binding")

    def test_then_reasons(self):
        grounds = self.RULES.judge("set", TREE, (0, 0))[3]
        self.check_refused("set", (0, 0), ("found", {"n": "a"}, (), grounds), "reason")
        self.check_refused("set", (0, 0), ("found", {"n": "a"}, grounds, None), "reason")
        self.check_refused("inner", (1,), ("found", {"n": "a"}, None, None), "reason")
        for label, value in odd_arguments():
            with self.subTest(label):
                if value is not None:
                    self.check_refused("set", (0, 0), ("found", {"n": "a"}, value, grounds), "reason")
                self.check_refused("set", (0, 0), ("not", value), "reason")
                self.check_refused("set", (1,), ("not", value), "reason")
        self.check_refused("set", (1,), ("not", ("mismatch", ((), None, "text"))), "reason")
        self.check_refused("inner", (1,), ("not", ("condition", ("nowhere", ()))), "reason")
        self.check_refused("set", (0, 0), ("not", ("mismatch", ((), None, "form"))), "reason")
        self.check_refused("set", (0, 0), ("not", ("guard", None, None)), "reason")
        self.check_refused("set", (0, 0), ("not", ["guard", None]), "reason")

    def test_then_guards(self):
        for label, value in odd_arguments():
            with self.subTest(label):
                self.check_refused("set", (0, 0), ("found", {"n": "a"}, None, value), "guard")
                self.check_refused("set", (0, 0), ("found", {"n": "a"}, None, ("each", value, value)), "guard")
                self.check_refused("any", (0, 0), ("found", {"x": put("a")}, None, ("one", 0, value)), "guard")
                self.check_refused("use", (1,), ("not", ("guard", value)), "guard")
                for word in ("path", "closed", "root", "not", "one", "each"):
                    self.check_refused("use", (1,), ("not", ("guard", (word, value))), "guard")
                    self.check_refused("use", (2, 0), ("found", {"n": "b"}, None, (word, value)), "guard")
                self.check_refused("use", (1,), ("not", ("guard", ("closed", (value,)))), "guard")
                self.check_refused("use", (1,), ("not", ("guard", ("closed", ((value, "in"),)))), "guard")
                self.check_refused("use", (1,), ("not", ("guard", ("closed", ((((0,), value)),)))), "guard")
                if value is not None:
                    # A rule without a guard has no grounds of one.
                    self.check_refused("inner", (1,), (*RULES.judge("inner", TREE, (1,)), value), "guard")
        self.check_refused("copy", (0, 0), ("not", ("guard", ("root",))), "guard", seq(seq(Tree("Copy", "a", "b"))))

    def test_guards_of_nodes_that_are_not_found(self):
        closed = ("closed", FLOW.points(seq(STOP, use("a")))[:0])
        for name, path in (("set", (1,)), ("use", (0, 0)), ("copy", ()), ("inner", (0,))):
            self.check_refused(name, path, ("not", ("guard", closed)), "guard")
        # The rule finds the node, but has no guard.
        self.check_refused("inner", (1,), ("not", ("guard", None)), "guard")
        self.check_refused("inner", (1,), ("not", ("guard", closed)), "guard")
        # The condition does not hold there.
        self.check_refused("inner", (), ("not", ("guard", closed)), "guard", use("a"))

    def test_lists_in_place_of_tuples(self):
        answer = self.RULES.judge("use", TREE, (2, 0))
        way = answer[3][1]
        for points in (list(way), tuple(list(point) for point in way),
                       tuple((list(path), word) for path, word in way)):
            self.check_refused("use", (2, 0), (*answer[:3], ("path", points)), "guard")
        self.check_refused("use", (2, 0), (*answer[:3], ["path", way]), "guard")
        wrong = tuple((tuple(bool(number) if number < 2 else number for number in path), word) for path, word in way)
        self.check_refused("use", (2, 0), (*answer[:3], ("path", wrong)), "guard")


if __name__ == "__main__":
    unittest.main()
