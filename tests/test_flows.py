"""Tests of ruleengine.flows, worked out by hand."""

import unittest

from ruleengine.errors import (
    InvalidAnswer, InvalidFlow, InvalidPath, InvalidPlan, InvalidPoint, NoDeed, UnknownName, WrongTree)
from ruleengine.flows import Flow, Plan, Question
from ruleengine.forms import Form, Schema
from ruleengine.trees import Like, Tree, Var
from tests.helpers import Case, names, not_names, odd_arguments, odd_values, repeated

FORMS = (
    Form("Seq", "stmt", items="stmt*"), Form("If", "stmt", test="expr", then="stmt", other="stmt"),
    Form("While", "stmt", body="stmt*", after="stmt*"), Form("Set", "stmt", word="text", value="expr*"),
    Form("Use", "expr", word="text"), Form("Stop", "stmt", of="expr*"), Form("Leave", "stmt", of="expr*"),
    Form("Again", "stmt", of="expr*"), Form("Any", "stmt", items="stmt*", label="text"))
SCHEMA = Schema(*FORMS)
PLANS = {"Any": Plan("choice"), "While": Plan("loop"), "Set": Plan(sets="word"), "Use": Plan(uses="word"),
         "Stop": Plan("stop"), "Leave": Plan("leave"), "Again": Plan("again")}
FLOW = Flow(SCHEMA, PLANS)
ORDERS = ("steps", "choice", "loop", "stop", "leave", "again")
STOP, LEAVE, AGAIN = Tree("Stop", ()), Tree("Leave", ()), Tree("Again", ())
START = ((), "in")


def seq(*items):
    return Tree("Seq", items)


def any_of(*items):
    return Tree("Any", items, "x")


def loop(*items):
    return Tree("While", items, ())


def use(word):
    return Tree("Use", word)


def put(word, *values):
    return Tree("Set", word, values)


def odd_points():
    """Pairs of a label and a value that is no point of the tree seq(seq(), seq())."""
    return odd_arguments() + [
        ("a text", "in"), ("a path", (0,)), ("the root's path", ()), ("a list", [(), "in"]),
        ("three", ((), "in", None)),
        ("a path in a list", ([0], "in")), ("too great", ((2,), "in")), ("too small", ((-1,), "in")),
        ("deep", ((0, 0), "in")),
        ("True", ((True,), "in")), ("False", ((False,), "in")), ("another word", ((0,), "on")),
        ("capitals", ((0,), "In")),
        ("bytes", ((0,), b"in")), ("None", ((0,), None)), ("a word in a tuple", ((0,), ("in",))),
        ("turned", ("in", (0,))),
        ("a text for a path", ("0", "in")), ("a long path", (repeated(tuple), "in")),
        ("a long word", ((0,), repeated(tuple))),
        ("a long list for a word", ((), repeated(list))), ("long in a path", ((repeated(tuple),), "in")),
        ("a large number", ((10 ** 999,), "in")), ("a tree", Tree("Seq", ())), ("no word", ((0,), ""))]


class PlanTest(Case):

    def test_properties(self):
        plan = Plan()
        self.assertEqual((plan.order, plan.sets, plan.uses), ("steps", None, None))
        for order in ORDERS:
            plan = Plan(order)
            self.assertEqual((plan.order, plan.sets, plan.uses), (order, None, None))
        plan = Plan("loop", sets="word")
        self.assertEqual((plan.order, plan.sets, plan.uses), ("loop", "word", None))
        plan = Plan(uses="word", order="stop")
        self.assertEqual((plan.order, plan.sets, plan.uses), ("stop", None, "word"))
        self.assertEqual(Plan(sets=None, uses=None).order, "steps")

    def test_wrong_orders(self):
        texts = [(text, text) for text in ("", "Steps", "step", "steps ", "jump", "in")]
        for label, order in odd_arguments() + texts + [("a tuple", ("steps",)), ("a list", ["steps"]),
                                                       ("a plan", Plan())]:
            with self.subTest(label):
                self.check_raises(InvalidPlan, {"part": "order"}, lambda: Plan(order))
                self.check_raises(InvalidPlan, {"part": "order"}, lambda: Plan(order=order, sets="1", uses="1"))

    def test_names_of_slots(self):
        for name in names():
            self.assertEqual((Plan(sets=name).sets, Plan(uses=name).uses), (name, name))

    def test_wrong_names_of_slots(self):
        for label, name in not_names():
            if name is not None:
                with self.subTest(label):
                    self.check_raises(InvalidPlan, {"part": "sets"}, lambda: Plan(sets=name))
                    self.check_raises(InvalidPlan, {"part": "sets"}, lambda: Plan(sets=name, uses=name))
                    self.check_raises(InvalidPlan, {"part": "sets"}, lambda: Plan(sets=name, uses="a"))
                    self.check_raises(InvalidPlan, {"part": "uses"}, lambda: Plan(uses=name))
                    self.check_raises(InvalidPlan, {"part": "uses"}, lambda: Plan(sets="a", uses=name))

    def test_both_given(self):
        self.check_raises(InvalidPlan, {"part": "deed"}, lambda: Plan(sets="a", uses="b"))
        self.check_raises(InvalidPlan, {"part": "deed"}, lambda: Plan("loop", uses="a", sets="a"))
        self.check_raises(InvalidPlan, {"part": "order"}, lambda: Plan("a", uses="a", sets="a"))


class QuestionTest(Case):

    def test_properties(self):
        avoid = (((0,), "deed"),)
        question = Question(START, avoid, ((1,), "in"))
        self.assertEqual((question.start, question.goal), (START, ((1,), "in")))
        self.assertIs(question.avoid, avoid)
        question = Question(goal=1, avoid=2, start=3)
        self.assertEqual((question.start, question.avoid, question.goal), (3, 2, 1))

    def test_nothing_is_checked(self):
        for label, value in odd_arguments():
            with self.subTest(label):
                question = Question(value, value, value)
                self.assertTrue(question.start is value and question.avoid is value and question.goal is value)

    def test_equality(self):
        one = Question(START, (((0,), "deed"),), ((1,), "in"))
        self.check_equal(one, one)
        self.check_equal(one, Question(((), "in"), (((0,), "deed"),), ((1,), "in")))
        for other in (Question(((), "out"), (((0,), "deed"),), ((1,), "in")), Question(START, (), ((1,), "in")),
                      Question(START, (((0,), "deed"),), ((2,), "in")), Question(START, (((0,), "out"),), ((1,), "in")),
                      Question(((1,), "in"), (((0,), "deed"),), START)):
            self.check_unequal(one, other)
        for label, value in odd_values() + [("a tuple", (START, (), START)), ("a plan", Plan())]:
            with self.subTest(label):
                self.check_unequal(one, value)


class MakeFlowTest(Case):

    def check_fault(self, fault, word, plans):
        self.check_raises(InvalidFlow, {"fault": fault, "word": word}, lambda: Flow(SCHEMA, plans))

    def test_plans(self):
        self.assertIs(FLOW.schema, SCHEMA)
        for name, plan in PLANS.items():
            self.assertIs(FLOW.plan(name), plan)
            self.assertIs(FLOW.plan(name=name), plan)
        for name in ("Seq", "If", "raw_stmt", "raw_expr"):
            plan = FLOW.plan(name)
            self.assertIs(type(plan), Plan)
            self.assertEqual((plan.order, plan.sets, plan.uses), ("steps", None, None))

    def test_without_plans(self):
        flow = Flow(plans={}, schema=SCHEMA)
        self.assertEqual(flow.plan("While").order, "steps")

    def test_raw_forms_have_plans(self):
        plan = Plan("stop", uses="text")
        flow = Flow(SCHEMA, {"raw_stmt": plan})
        self.assertIs(flow.plan("raw_stmt"), plan)
        self.assertEqual(flow.nexts(Tree("raw_stmt", "x"), ((), "deed")), ())
        self.assertEqual(list(flow.unset_uses(seq(Tree("raw_stmt", "x")))), [(0,)])

    def test_other_names(self):
        texts = [(text, text) for text in ("", "seq", "stmt", "raw_Seq", "raw_text", "x" * 20000)]
        for label, name in odd_arguments() + texts + [("a form", FORMS[0])]:
            with self.subTest(label):
                self.check_raises(UnknownName, {"word": name}, lambda: FLOW.plan(name))

    def test_unknown_forms(self):
        for word in ("Sub", "", "raw_text", None, True, 1, (), ("Seq",), b"Seq", 10 ** 999, Tree):
            self.check_fault("form", word, {word: Plan()})
            self.check_fault("form", word, {"Seq": Plan(), word: None})

    def test_wrong_plans(self):
        for label, value in odd_arguments() + [("an order", "steps"), ("a class", Plan), ("a flow", FLOW),
                                            ("a tuple", (Plan(),))]:
            with self.subTest(label):
                self.check_fault("plan", "Seq", {"Seq": value})
                self.check_fault("plan", "raw_expr", {"Set": Plan(sets="word"), "raw_expr": value})

    def test_wrong_slots(self):
        for word, slot in (("Seq", "items"), ("Seq", "word"), ("If", "test"), ("Set", "Word"), ("Set", "value"),
                           ("Use", "text"),
                           ("Stop", "of"), ("raw_stmt", "word"), ("Any", "items")):
            for plan in (Plan(sets=slot), Plan(uses=slot), Plan("loop", sets=slot)):
                self.check_fault("slot", word, {word: plan})
        self.assertEqual(Flow(SCHEMA, {"Any": Plan(sets="label"), "raw_expr": Plan(uses="text")}).plan("Any").sets,
                         "label")

    def test_the_first_wrong_entry_is_told(self):
        slot, wrong, none = Plan(sets="items"), "steps", Plan()
        self.check_fault("slot", "Seq", {"Seq": slot, "If": wrong, "Sub": none})
        self.check_fault("plan", "If", {"If": wrong, "Seq": slot, "Sub": none})
        self.check_fault("form", "Sub", {"Sub": wrong, "Seq": slot, "If": wrong})
        self.check_fault("plan", "If", {"Any": none, "If": wrong, "Seq": slot})

    def test_the_passed_dict_may_change_later(self):
        plans = {"While": Plan("loop")}
        flow = Flow(SCHEMA, plans)
        plans["While"] = Plan("stop")
        plans["Seq"] = Plan("stop")
        self.assertEqual((flow.plan("While").order, flow.plan("Seq").order), ("loop", "steps"))
        self.assertEqual(list(plans), ["While", "Seq"])


class StepsTest(Case):

    def check_nexts(self, tree, wanted):
        """Check the next points of some points, given as a dict."""
        for point, nexts in wanted.items():
            with self.subTest(str(point)):
                found = FLOW.nexts(tree, point)
                self.assertEqual(found, tuple(nexts))
                self.assertIs(type(found), tuple)
                self.assertEqual(list(found), sorted(found))

    def test_points(self):
        self.assertEqual(FLOW.points(seq()), (((), "deed"), ((), "in"), ((), "out")))
        self.assertEqual(FLOW.points(seq(seq(STOP), STOP)), tuple(
            (path, word) for path in ((), (0,), (0, 0), (1,)) for word in ("deed", "in", "out")))
        found = FLOW.points(tree=seq(*[STOP] * 12))
        self.assertEqual(list(found), sorted(found))
        self.assertEqual(len(found), 39)

    def test_steps(self):
        self.check_nexts(seq(put("a"), seq(), STOP), {
            ((), "in"): [((0,), "in")], ((0,), "in"): [((0,), "deed")], ((0,), "deed"): [((0,), "out")],
            ((0,), "out"): [((1,), "in")], ((1,), "out"): [((2,), "in")], ((2,), "in"): [((2,), "deed")],
            ((2,), "deed"): [], ((2,), "out"): [((), "deed")], ((), "deed"): [((), "out")], ((), "out"): []})

    def test_one_node_alone(self):
        for tree in (seq(), any_of(), loop(), put("a"), Tree("raw_stmt", "a")):
            self.check_nexts(tree, {((), "in"): [((), "deed")], ((), "deed"): [((), "out")], ((), "out"): []})

    def test_choice(self):
        self.check_nexts(seq(any_of(seq(), seq(), seq())), {
            ((0,), "in"): [((0, 0), "in"), ((0, 1), "in"), ((0, 2), "in")], ((0, 0), "out"): [((0,), "deed")],
            ((0, 1), "out"): [((0,), "deed")], ((0, 2), "out"): [((0,), "deed")], ((0,), "deed"): [((0,), "out")],
            ((0,), "out"): [((), "deed")]})

    def test_children_of_several_slots(self):
        tree = Tree("If", use("a"), seq(), STOP)
        self.check_nexts(tree, {((), "in"): [((0,), "in")], ((0,), "out"): [((1,), "in")],
                                ((1,), "out"): [((2,), "in")],
                                ((2,), "out"): [((), "deed")]})
        self.check_nexts(Tree("While", (seq(),), (seq(), seq())), {
            ((), "in"): [((), "deed"), ((0,), "in")], ((0,), "out"): [((1,), "in")], ((1,), "out"): [((2,), "in")],
            ((2,), "out"): [((), "deed"), ((0,), "in")]})

    def test_loop(self):
        self.check_nexts(seq(loop(seq(), seq()), seq()), {
            ((0,), "in"): [((0,), "deed"), ((0, 0), "in")], ((0, 0), "out"): [((0, 1), "in")],
            ((0, 1), "out"): [((0,), "deed"), ((0, 0), "in")], ((0,), "deed"): [((0,), "out")],
            ((0,), "out"): [((1,), "in")]})
        self.check_nexts(loop(seq()), {((0,), "out"): [((), "deed"), ((0,), "in")]})

    def test_jumps_are_performed_as_steps_first(self):
        for form in ("Stop", "Leave", "Again"):
            tree = loop(Tree(form, (use("a"), use("b"))))
            self.check_nexts(tree, {((0,), "in"): [((0, 0), "in")], ((0, 0), "out"): [((0, 1), "in")],
                                    ((0, 1), "out"): [((0,), "deed")]})

    def test_stop(self):
        self.check_nexts(loop(STOP), {((0,), "deed"): [], ((0,), "out"): [((), "deed"), ((0,), "in")]})

    def test_leave(self):
        tree = seq(loop(seq(), any_of(LEAVE, seq(LEAVE)), loop(seq(LEAVE))), LEAVE)
        self.check_nexts(tree, {
            ((0, 1, 0), "deed"): [((0,), "deed")], ((0, 1, 1, 0), "deed"): [((0,), "deed")],
            ((0, 2, 0, 0), "deed"): [((0, 2), "deed")], ((1,), "deed"): [], ((0, 1, 0), "out"): [((0, 1), "deed")]})
        self.check_nexts(LEAVE, {((), "deed"): [], ((), "in"): [((), "deed")]})

    def test_again(self):
        tree = seq(loop(seq(), any_of(AGAIN, seq(AGAIN)), loop(seq(AGAIN), seq())), AGAIN)
        self.check_nexts(tree, {
            ((0, 1, 0), "deed"): [((0,), "deed"), ((0, 0), "in")],
            ((0, 1, 1, 0), "deed"): [((0,), "deed"), ((0, 0), "in")],
            ((0, 2, 0, 0), "deed"): [((0, 2), "deed"), ((0, 2, 0), "in")], ((1,), "deed"): []})
        self.check_nexts(loop(AGAIN), {((0,), "deed"): [((), "deed"), ((0,), "in")]})
        self.check_nexts(AGAIN, {((), "deed"): []})

    def test_wrong_trees(self):
        wrong = seq(STOP, Tree("Sub"))
        question = Question(None, None, None)
        for tree, place in ((wrong, ()), (seq(Tree("Any", ())), (0,)), (Tree("Num", "1"), ())):
            for call in (lambda: FLOW.points(tree), lambda: FLOW.nexts(tree, None), lambda: FLOW.ask(tree, question),
                         lambda: FLOW.check(tree, question, None), lambda: FLOW.to_reach(tree, None),
                         lambda: FLOW.to_do(tree, None), lambda: FLOW.to_unset(tree, None),
                         lambda: FLOW.to_bring(tree, None, None), lambda: list(FLOW.unreached(tree)),
                         lambda: list(FLOW.unset_uses(tree)), lambda: list(FLOW.idle_sets(tree))):
                self.check_raises(WrongTree, {}, call)
                try:
                    call()
                except WrongTree as error:
                    self.assertEqual(error.place, place)

    def test_wrong_points(self):
        tree = seq(seq(), seq())
        for label, point in odd_points():
            with self.subTest(label):
                self.check_raises(InvalidPoint, {"value": point}, lambda: FLOW.nexts(tree, point))
                self.check_raises(InvalidPoint, {"value": point}, lambda: FLOW.nexts(point=point, tree=tree))


class AskTest(Case):

    def check_path(self, tree, question, *ways):
        """Check that one of some ways is found, and that all of them are correct."""
        found = FLOW.ask(tree, question)
        self.assertEqual(found[0], "path")
        self.assertIn(found[1], ways)
        for way in ways:
            self.assertEqual(FLOW.check(tree, question, ("path", way)), "path")
        with self.assertRaises(InvalidAnswer):
            FLOW.check(tree, question, ("closed", FLOW.points(tree)))

    def check_closed(self, tree, question, *points):
        """Check the least closed set."""
        found = FLOW.ask(tree, question)
        self.assertEqual(found, ("closed", points))
        self.assertIs(type(found[1]), tuple)
        self.assertEqual(list(points), sorted(points))
        self.assertEqual(FLOW.check(tree, question, found), "closed")

    def test_ways(self):
        tree = seq(any_of(seq(seq()), STOP), seq())
        self.check_path(tree, Question(START, (), ((1,), "in")), (
            START, ((0,), "in"), ((0, 0), "in"), ((0, 0, 0), "in"), ((0, 0, 0), "deed"), ((0, 0, 0), "out"),
            ((0, 0), "deed"),
            ((0, 0), "out"), ((0,), "deed"), ((0,), "out"), ((1,), "in")))
        self.check_path(tree, Question(((1,), "in"), (), ((1,), "deed")), (((1,), "in"), ((1,), "deed")))

    def test_a_way_has_the_fewest_points(self):
        tree = seq(any_of(seq(seq(), seq()), seq(), seq(seq())), seq())
        self.check_path(tree, Question(((0,), "in"), (), ((0,), "deed")), (
            ((0,), "in"), ((0, 1), "in"), ((0, 1), "deed"), ((0, 1), "out"), ((0,), "deed")))
        self.check_path(loop(seq()), Question(START, (), ((), "out")), (START, ((), "deed"), ((), "out")))
        self.check_path(loop(any_of(seq(), seq())), Question(START, (((), "deed"),), ((0,), "deed")), (
            START, ((0,), "in"), ((0, 0), "in"), ((0, 0), "deed"), ((0, 0), "out"), ((0,), "deed")), (
            START, ((0,), "in"), ((0, 1), "in"), ((0, 1), "deed"), ((0, 1), "out"), ((0,), "deed")))

    def test_points_to_avoid(self):
        tree = seq(any_of(put("a"), seq(put("b"))), seq())
        avoid = (((0, 0), "deed"),)
        self.check_path(tree, Question(((0,), "in"), avoid, ((1,), "in")), (
            ((0,), "in"), ((0, 1), "in"), ((0, 1, 0), "in"), ((0, 1, 0), "deed"), ((0, 1, 0), "out"), ((0, 1), "deed"),
            ((0, 1), "out"), ((0,), "deed"), ((0,), "out"), ((1,), "in")))
        avoid = (((0, 0), "deed"), ((0, 1, 0), "deed"))
        self.check_closed(tree, Question(((0,), "in"), avoid, ((1,), "in")), ((0, 0), "deed"), ((0, 0), "in"),
                          ((0, 1), "in"), ((0, 1, 0), "deed"), ((0, 1, 0), "in"))

    def test_start_and_goal_may_be_avoided(self):
        tree = seq(seq(), seq())
        start, goal = ((0,), "deed"), ((1,), "in")
        self.check_path(tree, Question(start, (start, goal), goal), (start, ((0,), "out"), goal))
        self.check_path(tree, Question(start, (start, goal, start), ((0,), "out")), (start, ((0,), "out")))
        self.check_closed(tree, Question(start, (((0,), "out"),), goal), ((0,), "out"))

    def test_from_a_point_to_itself(self):
        tree = loop(seq())
        point = ((0,), "in")
        self.check_path(tree, Question(point, (), point), (point, ((0,), "deed"), ((0,), "out"), point))
        self.check_path(tree, Question(point, (point,), point), (point, ((0,), "deed"), ((0,), "out"), point))
        self.check_closed(seq(seq()), Question(point, (), point), ((), "deed"), ((), "out"), ((0,), "deed"),
                          ((0,), "out"))
        self.check_closed(tree, Question(point, (((0,), "out"),), point), ((0,), "deed"), ((0,), "out"))

    def test_nothing_comes_next(self):
        self.check_closed(seq(STOP), Question(((0,), "deed"), (), ((0,), "deed")))
        self.check_closed(seq(STOP), Question(((0,), "deed"), (), ((), "out")))
        self.check_closed(seq(), Question(((), "out"), (), ((), "in")))

    def test_least_closed_sets(self):
        tree = seq(loop(any_of(put("a"), LEAVE)), seq())
        self.check_closed(tree, Question(((0,), "deed"), (), ((0,), "in")), ((), "deed"), ((), "out"), ((0,), "out"),
                          ((1,), "deed"), ((1,), "in"), ((1,), "out"))
        # The start itself is in it only if a way comes back to it.
        inner = loop(seq(), seq())
        self.check_closed(inner, Question(((0,), "in"), (((), "deed"),), ((), "out")), ((), "deed"), ((0,), "deed"),
                          ((0,), "in"), ((0,), "out"), ((1,), "deed"), ((1,), "in"), ((1,), "out"))

    def test_correct_ways(self):
        tree = loop(seq())
        around = (((0,), "in"), ((0,), "deed"), ((0,), "out"))
        question = Question(START, (), ((), "out"))
        end = (((), "deed"), ((), "out"))
        for times in (0, 1, 2, 500):
            self.assertEqual(FLOW.check(tree, question, ("path", (START, *around * times, *end))), "path")
        # The start and the goal may be passed on the way, if they are not to be avoided.
        question = Question(around[0], (), around[2])
        self.assertEqual(FLOW.check(tree, question, ("path", around * 3)), "path")
        for avoid in ((around[0],), (around[2],), (around[1],)):
            question = Question(around[0], avoid, around[2])
            self.check_raises(InvalidAnswer, {"part": "path"}, lambda: FLOW.check(tree, question, ("path", around * 3)))

    def test_wrong_ways(self):
        tree = seq(any_of(seq(), STOP), seq())
        way = FLOW.ask(tree, Question(START, (), ((1,), "in")))[1]
        question = Question(START, (((0, 1), "in"),), ((1,), "in"))
        self.assertEqual(FLOW.check(tree, question, ("path", way)), "path")
        wrong = [(), way[:1], way[1:], way[:-1], way[:3] + way[4:], way + way[-1:], way[:2] + way[1:], way[::-1],
                 way + way,
                 (START, ((1,), "in")), (*way, ((1,), "deed")), list(way), (way,), way[-1:], (*way[:-1], None),
                 (START, ((0,), "in"), ((0, 1), "in"), *way[3:]), (*way[:-1], ((True,), "in")),
                 (*way[:-1], [(1,), "in"]),
                 (*way[:2], ((0, False), "in"), *way[3:]), repeated(tuple), (repeated(tuple),) * 3,
                 (*way, repeated(list)),
                 ((), *way), {point: None for point in way}, (None, *way[1:])]
        for value in wrong + [value for _, value in odd_arguments()]:
            self.check_raises(InvalidAnswer, {"part": "path"}, lambda: FLOW.check(tree, question, ("path", value)))
        for avoid in way[1:-1]:
            other = Question(START, (avoid,), ((1,), "in"))
            self.check_raises(InvalidAnswer, {"part": "path"}, lambda: FLOW.check(tree, other, ("path", way)))

    def test_correct_closed_sets(self):
        tree = seq(STOP, seq())
        question = Question(START, (), ((1,), "in"))
        least = FLOW.ask(tree, question)[1]
        self.assertEqual(least, (((0,), "deed"), ((0,), "in")))
        after = (((1,), "deed"), ((1,), "out"), ((), "deed"), ((), "out"))
        for points in (least[::-1], least + least, (*least, ((), "out")), (*least, ((), "out"), ((), "deed")),
                       (*least, START),
                       least + after, after + least + after, (*least, ((), "deed"), ((), "out"), ((1,), "out"))):
            self.assertEqual(FLOW.check(tree, question, ("closed", points)), "closed")
        # From points to avoid nothing need be contained.
        question = Question(START, (((0,), "in"),), ((1,), "in"))
        self.assertEqual(FLOW.check(tree, question, ("closed", (((0,), "in"),))), "closed")
        self.assertEqual(FLOW.check(tree, question, ("closed", least)), "closed")
        # What comes behind the start is contained even if this is to be avoided.
        question = Question(START, (START,), ((1,), "in"))
        self.check_raises(InvalidAnswer, {"part": "closed"}, lambda: FLOW.check(tree, question, ("closed", (START,))))
        self.check_raises(InvalidAnswer, {"part": "closed"}, lambda: FLOW.check(tree, question, ("closed", ())))

    def test_wrong_closed_sets(self):
        tree = seq(STOP, seq())
        question = Question(START, (((1,), "deed"),), ((1,), "in"))
        least = (((0,), "deed"), ((0,), "in"))
        wrong = [(), least[:1], least[1:], (*least, ((1,), "in")), (*least, ((0,), "out")), (*least, ((1,), "out")),
                 list(least),
                 (*least, None), (*least, ((2,), "in")), (*least, [(), "out"]), (*least, ((False,), "in")), (least,),
                 (*least, repeated(tuple)), repeated(tuple), (repeated(list),) * 3, {point: None for point in least},
                 (*least, ((), "deed")), FLOW.points(tree), (((False,), "deed"), ((0,), "in")), (*least, ((0,), "on"))]
        for value in wrong + [value for _, value in odd_arguments() if value != ()]:
            self.check_raises(InvalidAnswer, {"part": "closed"}, lambda: FLOW.check(tree, question, ("closed", value)))

    def test_wrong_forms_of_answers(self):
        tree = seq(STOP, seq())
        for question in (Question(START, (), ((1,), "in")), Question(START, (), ((0,), "in"))):
            right = FLOW.ask(tree, question)
            values = odd_arguments() + [("a list", list(right)), ("alone", right[:1]), ("three", (*right, None)),
                                     ("nothing", ()),
                                     ("turned", right[::-1]), ("another word", ("open", right[1])),
                                     ("a text", right[0]),
                                     ("the points", right[1]), ("bytes", (b"path", right[1])),
                                     ("True", (True, right[1])),
                                     ("a tuple of a word", ((right[0],), right[1])),
                                     ("long", (repeated(tuple), right[1]))]
            for label, answer in values:
                with self.subTest(label):
                    self.check_raises(InvalidAnswer, {"part": "form"}, lambda: FLOW.check(tree, question, answer))

    def test_wrong_points_of_questions(self):
        tree = seq(seq(), seq())
        right = ((1,), "in")
        for label, point in odd_points():
            with self.subTest(label):
                for question in (Question(point, (None,), None), Question(right, (point,), None),
                                 Question(right, (right, point), 1),
                                 Question(right, (), point), Question(right, (right,) * 3, point)):
                    for call in (lambda: FLOW.ask(tree, question), lambda: FLOW.check(tree, question, None)):
                        self.check_raises(InvalidPoint, {"value": point}, call)
        for avoid in (None, [right], right[0] + (0,)):
            self.check_raises(InvalidPoint, {}, lambda: FLOW.ask(tree, Question(right, avoid, right)))

    def test_arguments_by_name(self):
        tree, question = seq(seq()), Question(START, (), ((0,), "in"))
        answer = ("path", (START, ((0,), "in")))
        self.assertEqual(FLOW.ask(question=question, tree=tree), answer)
        self.assertEqual(FLOW.check(answer=answer, question=question, tree=tree), "path")


class DeedsTest(Case):

    # Seq([Set("a", []), While([Any([Set("b", [Use("a")]), Leave([])], "x"), Set("a", [Use("b")])], []),
    #      Set("c", [Use("b"), Use("a")])])
    TREE = seq(put("a"), loop(any_of(put("b", use("a")), LEAVE), put("a", use("b"))), put("c", use("b"), use("a")))

    def test_to_reach(self):
        self.assertEqual(FLOW.to_reach(self.TREE, (1, 0)), Question(START, (), ((1, 0), "in")))
        self.assertEqual(FLOW.to_reach(path=(0,), tree=self.TREE), Question(START, (), ((0,), "in")))
        self.check_raises(InvalidPath, {"value": ()}, lambda: FLOW.to_reach(self.TREE, ()))

    def test_to_do(self):
        self.assertEqual(FLOW.to_do(self.TREE, (1, 0)), Question(START, (), ((1, 0), "deed")))
        self.assertEqual(FLOW.to_do(path=(), tree=self.TREE), Question(START, (), ((), "deed")))

    def test_to_unset(self):
        avoid = (((0,), "deed"), ((1, 1), "deed"))
        self.assertEqual(FLOW.to_unset(self.TREE, (2, 1)), Question(START, avoid, ((2, 1), "deed")))
        self.assertEqual(FLOW.to_unset(path=(1, 0, 0, 0), tree=self.TREE),
                         Question(START, avoid, ((1, 0, 0, 0), "deed")))
        self.assertEqual(FLOW.to_unset(self.TREE, (2, 0)), Question(START, (((1, 0, 0), "deed"),), ((2, 0), "deed")))
        self.assertEqual(FLOW.to_unset(put("a", use("b")), (0,)), Question(START, (), ((0,), "deed")))
        for path in ((), (0,), (1, 0), (1, 0, 0), (1, 0, 1), (2,)):
            self.check_raises(NoDeed, {"place": path}, lambda: FLOW.to_unset(self.TREE, path))

    def test_to_bring(self):
        avoid = (((0,), "deed"), ((1, 1), "deed"))
        self.assertEqual(FLOW.to_bring(self.TREE, (0,), (2, 1)), Question(((0,), "deed"), avoid, ((2, 1), "deed")))
        self.assertEqual(FLOW.to_bring(use=(1, 0, 0, 0), path=(1, 1), tree=self.TREE),
                         Question(((1, 1), "deed"), avoid, ((1, 0, 0, 0), "deed")))
        self.assertEqual(FLOW.to_bring(self.TREE, (1, 0, 0), (1, 1, 0)),
                         Question(((1, 0, 0), "deed"), (((1, 0, 0), "deed"),), ((1, 1, 0), "deed")))
        for path in ((), (1,), (1, 0, 0, 0), (2, 1)):
            self.check_raises(NoDeed, {"place": path}, lambda: FLOW.to_bring(self.TREE, path, (2, 1)))
        for use_path in ((), (0,), (1,), (1, 1), (1, 1, 0), (2, 0)):
            self.check_raises(NoDeed, {"place": use_path}, lambda: FLOW.to_bring(self.TREE, (0,), use_path))
        # Both are wrong: the set is told first. A use of a variable that is not set there is told as the use.
        self.check_raises(NoDeed, {"place": (1,)}, lambda: FLOW.to_bring(self.TREE, (1,), (0,)))
        self.check_raises(NoDeed, {"place": (2, 0)}, lambda: FLOW.to_bring(self.TREE, (2,), (2, 0)))

    def test_wrong_paths(self):
        for label, path in odd_arguments() + [("too great", (3,)), ("a list", [0]), ("True", (True,)), ("a text", "0"),
                                           ("negative", (-1,)), ("below a leaf", (0, 0)), ("a point", START)]:
            if path != ():
                with self.subTest(label):
                    for call in (lambda: FLOW.to_reach(self.TREE, path), lambda: FLOW.to_do(self.TREE, path),
                                 lambda: FLOW.to_unset(self.TREE, path), lambda: FLOW.to_bring(self.TREE, path, (2, 1)),
                                 lambda: FLOW.to_bring(self.TREE, path, None),
                                 lambda: FLOW.to_bring(self.TREE, (0,), path),
                                 lambda: FLOW.to_bring(self.TREE, (1,), path)):
                        self.check_raises(InvalidPath, {"value": path}, call)

    def test_the_very_path_is_told(self):
        path = (5, 10 ** 20)
        for call in (lambda: FLOW.to_do(self.TREE, path), lambda: FLOW.to_bring(self.TREE, (0,), path)):
            self.check_raises(InvalidPath, {"value": path}, call)
        path = tuple([1, 0])
        self.check_raises(NoDeed, {"place": path}, lambda: FLOW.to_unset(self.TREE, path))

    def test_reached_nodes(self):
        for tree, paths in (
                (seq(), []), (seq(STOP, seq()), [(1,)]), (seq(seq(STOP, seq(STOP)), seq()), [(0, 1), (0, 1, 0), (1,)]),
                (seq(any_of(STOP, STOP), seq(seq())), [(1,), (1, 0)]), (seq(any_of(STOP, seq()), seq()), []),
                (seq(loop(STOP, seq()), seq()), [(0, 1)]), (loop(LEAVE, seq()), [(1,)]), (loop(AGAIN, seq()), [(1,)]),
                (loop(any_of(LEAVE, AGAIN), seq()), [(1,)]), (seq(LEAVE, seq()), [(1,)]), (seq(AGAIN, seq()), [(1,)]),
                (Tree("Stop", (use("a"), use("b"))), []), (seq(Tree("Stop", (use("a"),)), seq()), [(1,)]),
                (self.TREE, []),
                (seq(loop(seq()), STOP, loop(seq(seq()))), [(2,), (2, 0), (2, 0, 0)]), (STOP, [])):
            self.assertEqual(list(FLOW.unreached(tree)), paths)
            self.assertEqual(list(FLOW.unreached(tree=tree)), paths)
            for path in tree.each_path():
                if path:
                    word = "closed" if path in paths else "path"
                    self.assertEqual(FLOW.ask(tree, FLOW.to_reach(tree, path))[0], word)

    def test_done_nodes(self):
        tree = seq(loop(any_of(LEAVE, AGAIN), seq()), any_of(STOP, LEAVE))
        done = {path for path in tree.each_path() if FLOW.ask(tree, FLOW.to_do(tree, path))[0] == "path"}
        self.assertEqual(done, {(0,), (0, 0, 0), (0, 0, 1), (1, 0), (1, 1)})

    def test_uses_that_are_maybe_unset(self):
        for tree, paths in (
                (self.TREE, [(2, 0)]), (put("a", use("a")), [(0,)]),
                (seq(put("a"), put("b", use("a"))), []), (seq(put("b", use("a")), put("a")), [(0, 0)]),
                (seq(any_of(put("a"), seq()), put("b", use("a"))), [(1, 0)]),
                (seq(any_of(put("a"), put("a")), put("b", use("a"))), []),
                (seq(any_of(put("a"), STOP), put("b", use("a"))), []),
                (seq(loop(put("a")), put("b", use("a"))), [(1, 0)]), (loop(put("b", use("a")), put("a")), [(0, 0)]),
                (seq(STOP, put("b", use("a"))), []), (put("b", use("a"), use("A"), use("")), [(0,), (1,), (2,)]),
                (seq(put("a"), loop(put("b", use("a")), put("a"))), []), (use("a"), [()]),
                (seq(loop(any_of(AGAIN, put("a")), put("c", use("a"))), put("b", use("a"))), [(1, 0)])):
            with self.subTest(tree.text):
                self.assertEqual(list(FLOW.unset_uses(tree)), paths)
                self.assertEqual(list(FLOW.unset_uses(tree=tree)), paths)

    def test_idle_sets(self):
        for tree, paths in (
                (self.TREE, [(2,)]), (put("a"), [()]), (put("a", use("a")), [()]),
                (seq(put("a"), put("b", use("a"))), [(1,)]),
                (seq(put("a"), put("a"), put("b", use("a"))), [(0,), (2,)]), (seq(STOP, put("a")), []),
                (loop(put("a", use("a"))), []),
                (seq(put("a"), any_of(put("a"), seq()), put("b", use("a"))), [(2,)]),
                (seq(put("a"), any_of(put("a"), STOP), put("b", use("a"))), [(0,), (2,)]),
                (seq(put("a"), STOP, put("b", use("a"))), [(0,)]),
                (seq(put("a"), put("A"), put("b", use("a"))), [(1,), (2,)]),
                (loop(put("b", use("a")), put("a")), [(0,)])):
            with self.subTest(tree.text):
                self.assertEqual(list(FLOW.idle_sets(tree)), paths)
                self.assertEqual(list(FLOW.idle_sets(tree=tree)), paths)

    def test_lists_walked_through_at_once(self):
        tree = seq(STOP, put("a", use("a")), seq())
        other = seq(put("a"), put("b", use("c"), use("d")))
        for walk in (FLOW.unreached, FLOW.unset_uses, FLOW.idle_sets):
            self.assertEqual([(one, two, three) for one in walk(tree) for two in walk(other) for three in walk(tree)],
                             [(one, two, three) for one in list(walk(tree)) for two in list(walk(other))
                              for three in list(walk(tree))])
        self.assertEqual(next(iter(FLOW.unset_uses(other))), (1, 0))

    def test_plans_that_set_and_use_beside_an_order(self):
        flow = Flow(SCHEMA, {**PLANS, "Any": Plan("choice", sets="label"), "raw_expr": Plan("stop", uses="text")})
        tree = seq(any_of(seq(), put("b")), put("c", Tree("raw_expr", "x"), use("x")))
        self.assertEqual(list(flow.unset_uses(tree)), [])
        self.assertEqual(list(flow.idle_sets(tree)), [(0, 1)])
        self.assertEqual(list(flow.unreached(tree)), [(1, 1)])
        self.assertEqual(flow.to_unset(tree, (1, 0)), Question(START, (((0,), "deed"),), ((1, 0), "deed")))

    def test_values_that_are_no_trees_of_the_schema(self):
        self.assertEqual(Like("Seq", (Var("x"),)).text, "Seq([x])")
        self.check_raises(WrongTree, {}, lambda: FLOW.points(seq(Tree("Use", "a"))))


if __name__ == "__main__":
    unittest.main()
