"""Tests of the facts about flow over drawn programs, by a second way of finding ways and closed sets."""

import collections
import itertools
import random
import unittest

from ruleengine.errors import InvalidAnswer, NoDeed
from ruleengine.flows import Flow, Plan, Question
from ruleengine.forms import Form, Schema
from ruleengine.trees import Tree
from tests.helpers import Case

SCHEMA = Schema(
    Form("Seq", "stmt", items="stmt*"), Form("Any", "stmt", one="stmt", two="stmt"),
    Form("Loop", "stmt", items="stmt*"),
    Form("Set", "stmt", word="text", items="stmt*"), Form("Use", "stmt", word="text"),
    Form("Stop", "stmt", items="stmt*"),
    Form("Leave", "stmt", items="stmt*"), Form("Again", "stmt", items="stmt*"))
FLOW = Flow(SCHEMA, {"Any": Plan("choice"), "Loop": Plan("loop"), "Set": Plan(sets="word"), "Use": Plan(uses="word"),
                     "Stop": Plan("stop"), "Leave": Plan("leave"), "Again": Plan("again")})
START = ((), "in")


def draw(rnd, levels):
    """A drawn program of at most so many levels."""
    name = rnd.choice(("Seq", "Any", "Loop", "Seq", "Loop", "Set", "Use", "Set", "Use", "Stop", "Leave", "Again"))
    if levels <= 1 and name == "Any":
        name = "Use"
    many = 0 if levels <= 1 or name in ("Use", "Stop", "Leave", "Again") and rnd.randrange(5) else rnd.randrange(4)
    if name == "Use":
        return Tree("Use", rnd.choice("ab"))
    if name == "Any":
        return Tree("Any", draw(rnd, levels - 1), draw(rnd, levels - 1))
    items = tuple(draw(rnd, levels - 1) for _ in range(many if name != "Set" or rnd.randrange(4) == 0 else 0))
    return Tree("Set", rnd.choice("ab"), items) if name == "Set" else Tree(name, items)


def programs(seed, many, most=30):
    """Drawn programs of several nodes."""
    rnd = random.Random(seed)
    while many > 0:
        tree = Tree("Seq", (draw(rnd, 4), draw(rnd, 4)))
        if len(tree) <= most:
            many -= 1
            yield rnd, tree


def order(tree, path):
    return FLOW.plan(tree[path].form).order


def nexts(tree, point):
    """The next points of a point, as the document tells them."""
    path, word = point
    children = [(*path, number) for number in range(len(tree[path].children))]
    if word == "in":
        if not children:
            return {(path, "deed")}
        if order(tree, path) == "choice":
            return {(child, "in") for child in children}
        return {(children[0], "in")} | ({(path, "deed")} if order(tree, path) == "loop" else set())
    if word == "deed":
        if order(tree, path) == "stop":
            return set()
        if order(tree, path) in ("leave", "again"):
            loops = [path[:length] for length in range(len(path)) if order(tree, path[:length]) == "loop"]
            if not loops:
                return set()
            return {(loops[-1], "deed")} | ({((*loops[-1], 0), "in")} if order(tree, path) == "again" else set())
        return {(path, "out")}
    if path == ():
        return set()
    upper, number = path[:-1], path[-1]
    if order(tree, upper) == "choice":
        return {(upper, "deed")}
    if number + 1 < len(tree[upper].children):
        return {((*upper, number + 1), "in")}
    return {(upper, "deed")} | ({((*upper, 0), "in")} if order(tree, upper) == "loop" else set())


def distances(tree, start, avoid):
    """How many steps lead at least from the start to each point, for those to which a way leads."""
    found = {}
    front = [start]
    steps = 0
    while front:
        steps += 1
        reached = [after for point in front for after in sorted(nexts(tree, point)) if after not in found]
        for after in reached:
            found[after] = steps
        front = [after for after in dict.fromkeys(reached) if after not in avoid]
    return found


def is_way(tree, question, points):
    """Tell if points are a way."""
    return (len(points) >= 2 and points[0] == question.start and points[-1] == question.goal
            and all(after in nexts(tree, point) for point, after in zip(points, points[1:]))
            and not any(point in question.avoid for point in points[1:-1]))


def is_closed(tree, question, points):
    """Tell if points are a closed set."""
    sources = [question.start] + [point for point in points if point not in question.avoid]
    return question.goal not in points and all(after in points for point in sources for after in nexts(tree, point))


def deeds(tree, kind):
    """Pairs of the path and the variable of each node that sets, or uses, one."""
    return [(path, tree[path].parts[0]) for path in tree.each_path() if tree[path].form == kind]


def leads(tree, start, avoid, goal):
    return goal in distances(tree, start, avoid)


class StepsTest(Case):

    def test_points_and_steps(self):
        for _, tree in programs(41, 150):
            points = [(path, word) for path in tree.each_path() for word in ("deed", "in", "out")]
            self.assertEqual(FLOW.points(tree), tuple(points))
            for point in points:
                self.assertEqual(FLOW.nexts(tree, point), tuple(sorted(nexts(tree, point))))


class QuestionTest(Case):

    def draw_questions(self, seed, many):
        """Drawn questions, each with its program."""
        for rnd, tree in programs(seed, many):
            points = FLOW.points(tree)
            for _ in range(12):
                avoid = tuple(rnd.choice(points) for _ in range(rnd.randrange(4)))
                start = rnd.choice((START, rnd.choice(points)))
                yield rnd, tree, Question(start, avoid, rnd.choice(points))

    def test_ways_and_closed_sets(self):
        told = collections.Counter()
        for _, tree, question in self.draw_questions(42, 150):
            found = distances(tree, question.start, question.avoid)
            answer = FLOW.ask(tree, question)
            self.assertEqual(FLOW.check(tree, question, answer), answer[0])
            told[answer[0]] += 1
            if question.goal in found:
                self.assertEqual((answer[0], len(answer[1])), ("path", found[question.goal] + 1))
                self.assertTrue(is_way(tree, question, answer[1]))
            else:
                self.assertEqual(answer, ("closed", tuple(sorted(found))))
                self.assertTrue(is_closed(tree, question, answer[1]))
        self.assertGreater(min(told.values()), 300)

    def test_answers_for_other_questions(self):
        told = collections.Counter()
        for rnd, tree, question in self.draw_questions(43, 150):
            points = FLOW.points(tree)
            other = Question(question.start, question.avoid[:1], rnd.choice((question.goal, rnd.choice(points))))
            word, told_points = FLOW.ask(tree, other)
            more = tuple(rnd.choice(points) for _ in range(rnd.randrange(3)))
            for value in (told_points, told_points + more, told_points[1:], told_points[::-1]):
                wanted = (is_way if word == "path" else is_closed)(tree, question, value)
                try:
                    found = FLOW.check(tree, question, (word, value)) == word
                except InvalidAnswer as error:
                    self.assertEqual(error.part, word)
                    found = False
                self.assertEqual(found, wanted)
                told[word, found] += 1
        self.assertGreater(min(told.values()), 100)

    def test_the_least_closed_set_is_contained_in_all_others(self):
        met = 0
        for rnd, tree in programs(44, 60, 4):
            points = FLOW.points(tree)
            question = Question(rnd.choice(points), (rnd.choice(points),), rnd.choice(points))
            word, least = FLOW.ask(tree, question)
            sets = [chosen for size in range(len(points) + 1) for chosen in itertools.combinations(points, size)
                    if is_closed(tree, question, chosen)]
            self.assertEqual(word == "path", sets == [])
            for chosen in sets:
                met += 1
                self.assertTrue(set(least) <= set(chosen))
        self.assertGreater(met, 100)


class DeedsTest(Case):

    def test_what_the_lists_tell(self):
        told = collections.Counter()
        for _, tree in programs(45, 300):
            sets, uses = deeds(tree, "Set"), deeds(tree, "Use")
            found = distances(tree, START, ())
            unreached = [path for path in tree.each_path() if path and (path, "in") not in found]
            self.assertEqual(list(FLOW.unreached(tree)), unreached)
            setters = {word: [(path, "deed") for path, other in sets if other == word] for word in "ab"}
            unset = [path for path, word in uses if leads(tree, START, setters[word], (path, "deed"))]
            self.assertEqual(list(FLOW.unset_uses(tree)), unset)
            idle = [path for path, word in sets if (path, "deed") in found and not any(
                leads(tree, (path, "deed"), setters[word], (use, "deed")) for use, other in uses if other == word)]
            self.assertEqual(list(FLOW.idle_sets(tree)), idle)
            for name, paths in (("unreached", unreached), ("unset", unset), ("idle", idle)):
                told[name] += len(paths)
        self.assertGreater(min(told.values()), 100)

    def test_questions(self):
        for _, tree in programs(46, 100):
            sets, uses = dict(deeds(tree, "Set")), dict(deeds(tree, "Use"))
            for path in tree.each_path():
                self.assertEqual(FLOW.to_do(tree, path), Question(START, (), (path, "deed")))
                if path:
                    self.assertEqual(FLOW.to_reach(tree, path), Question(START, (), (path, "in")))
                if path in uses:
                    avoid = tuple((other, "deed") for other in sets if sets[other] == uses[path])
                    self.assertEqual(FLOW.to_unset(tree, path), Question(START, avoid, (path, "deed")))
                else:
                    self.check_raises(NoDeed, {"place": path}, lambda: FLOW.to_unset(tree, path))
                for use in tree.each_path():
                    if path not in sets:
                        self.check_raises(NoDeed, {"place": path}, lambda: FLOW.to_bring(tree, path, use))
                    elif uses.get(use) != sets[path]:
                        self.check_raises(NoDeed, {"place": use}, lambda: FLOW.to_bring(tree, path, use))
                    else:
                        avoid = tuple((other, "deed") for other in sets if sets[other] == sets[path])
                        wanted = Question((path, "deed"), avoid, (use, "deed"))
                        self.assertEqual(FLOW.to_bring(tree, path, use), wanted)

    def test_every_use_that_is_done_is_maybe_unset_or_brought_to(self):
        told = collections.Counter()
        for _, tree in programs(47, 200):
            sets, uses = deeds(tree, "Set"), deeds(tree, "Use")
            unset = list(FLOW.unset_uses(tree))
            for use, word in uses:
                if FLOW.ask(tree, FLOW.to_do(tree, use))[0] == "path":
                    brought = [path for path, other in sets if other == word
                               and FLOW.ask(tree, FLOW.to_do(tree, path))[0] == "path"
                               and FLOW.ask(tree, FLOW.to_bring(tree, path, use))[0] == "path"]
                    self.assertTrue(use in unset or brought)
                    told[use in unset, bool(brought)] += 1
                else:
                    self.assertNotIn(use, unset)
        self.assertEqual(len(told), 3)


if __name__ == "__main__":
    unittest.main()
