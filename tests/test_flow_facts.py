"""Tests of the facts about flow over drawn programs, by a second way of finding ways and closed sets."""

import collections
import itertools
import unittest

from ruleengine.errors import InvalidAnswer, NoDeed
from ruleengine.flows import Question
from tests.flowing import FLOW, START, deeds, distances, is_closed, is_way, leads, nexts, programs
from tests.helpers import Case


class StepsTest(Case):

    def test_points_and_steps(self):
        for _, tree in programs(41, 150):
            points = [(path, word) for path in tree.each_path() for word in ("deed", "in", "out")]
            self.assertEqual(FLOW.points(tree), tuple(points))
            for point in points:
                self.assertEqual(FLOW.nexts(tree, point), tuple(sorted(nexts(tree, point))))


class QuestionTest(Case):

    def draw_questions(self, seed, many):
        """Drawn questions, each with its program."""
        for rnd, tree in programs(seed, many):
            points = FLOW.points(tree)
            for _ in range(12):
                avoid = tuple(rnd.choice(points) for _ in range(rnd.randrange(4)))
                start = rnd.choice((START, rnd.choice(points)))
                yield rnd, tree, Question(start, avoid, rnd.choice(points))

    def test_ways_and_closed_sets(self):
        told = collections.Counter()
        for _, tree, question in self.draw_questions(42, 150):
            found = distances(tree, question.start, question.avoid)
            answer = FLOW.ask(tree, question)
            self.assertEqual(FLOW.check(tree, question, answer), answer[0])
            told[answer[0]] += 1
            if question.goal in found:
                self.assertEqual((answer[0], len(answer[1])), ("path", found[question.goal] + 1))
                self.assertTrue(is_way(tree, question, answer[1]))
            else:
                self.assertEqual(answer, ("closed", tuple(sorted(found))))
                self.assertTrue(is_closed(tree, question, answer[1]))
        self.assertGreater(min(told.values()), 300)

    def test_answers_for_other_questions(self):
        told = collections.Counter()
        for rnd, tree, question in self.draw_questions(43, 150):
            points = FLOW.points(tree)
            other = Question(question.start, question.avoid[:1], rnd.choice((question.goal, rnd.choice(points))))
            word, told_points = FLOW.ask(tree, other)
            more = tuple(rnd.choice(points) for _ in range(rnd.randrange(3)))
            for value in (told_points, told_points + more, told_points[1:], told_points[::-1]):
                wanted = (is_way if word == "path" else is_closed)(tree, question, value)
                try:
                    found = FLOW.check(tree, question, (word, value)) == word
                except InvalidAnswer as error:
                    self.assertEqual(error.part, word)
                    found = False
                self.assertEqual(found, wanted)
                told[word, found] += 1
        self.assertGreater(min(told.values()), 100)

    def test_the_least_closed_set_is_contained_in_all_others(self):
        met = 0
        for rnd, tree in programs(44, 60, 4):
            points = FLOW.points(tree)
            question = Question(rnd.choice(points), (rnd.choice(points),), rnd.choice(points))
            word, least = FLOW.ask(tree, question)
            sets = [chosen for size in range(len(points) + 1) for chosen in itertools.combinations(points, size)
                    if is_closed(tree, question, chosen)]
            self.assertEqual(word == "path", sets == [])
            for chosen in sets:
                met += 1
                self.assertTrue(set(least) <= set(chosen))
        self.assertGreater(met, 100)


class DeedsTest(Case):

    def test_what_the_lists_tell(self):
        told = collections.Counter()
        for _, tree in programs(45, 300):
            sets, uses = deeds(tree, "Set"), deeds(tree, "Use")
            found = distances(tree, START, ())
            unreached = [path for path in tree.each_path() if path and (path, "in") not in found]
            self.assertEqual(list(FLOW.unreached(tree)), unreached)
            setters = {word: [(path, "deed") for path, other in sets if other == word] for word in "ab"}
            unset = [path for path, word in uses if leads(tree, START, setters[word], (path, "deed"))]
            self.assertEqual(list(FLOW.unset_uses(tree)), unset)
            idle = [path for path, word in sets if (path, "deed") in found and not any(
                leads(tree, (path, "deed"), setters[word], (use, "deed")) for use, other in uses if other == word)]
            self.assertEqual(list(FLOW.idle_sets(tree)), idle)
            for name, paths in (("unreached", unreached), ("unset", unset), ("idle", idle)):
                told[name] += len(paths)
        self.assertGreater(min(told.values()), 100)

    def test_questions(self):
        for _, tree in programs(46, 100):
            sets, uses = dict(deeds(tree, "Set")), dict(deeds(tree, "Use"))
            for path in tree.each_path():
                self.assertEqual(FLOW.to_do(tree, path), Question(START, (), (path, "deed")))
                if path:
                    self.assertEqual(FLOW.to_reach(tree, path), Question(START, (), (path, "in")))
                if path in uses:
                    avoid = tuple((other, "deed") for other in sets if sets[other] == uses[path])
                    self.assertEqual(FLOW.to_unset(tree, path), Question(START, avoid, (path, "deed")))
                else:
                    self.check_raises(NoDeed, {"place": path}, lambda: FLOW.to_unset(tree, path))
                for use in tree.each_path():
                    if path not in sets:
                        self.check_raises(NoDeed, {"place": path}, lambda: FLOW.to_bring(tree, path, use))
                    elif uses.get(use) != sets[path]:
                        self.check_raises(NoDeed, {"place": use}, lambda: FLOW.to_bring(tree, path, use))
                    else:
                        avoid = tuple((other, "deed") for other in sets if sets[other] == sets[path])
                        wanted = Question((path, "deed"), avoid, (use, "deed"))
                        self.assertEqual(FLOW.to_bring(tree, path, use), wanted)

    def test_every_use_that_is_done_is_maybe_unset_or_brought_to(self):
        told = collections.Counter()
        for _, tree in programs(47, 200):
            sets, uses = deeds(tree, "Set"), deeds(tree, "Use")
            unset = list(FLOW.unset_uses(tree))
            for use, word in uses:
                if FLOW.ask(tree, FLOW.to_do(tree, use))[0] == "path":
                    brought = [path for path, other in sets if other == word
                               and FLOW.ask(tree, FLOW.to_do(tree, path))[0] == "path"
                               and FLOW.ask(tree, FLOW.to_bring(tree, path, use))[0] == "path"]
                    self.assertTrue(use in unset or brought)
                    told[use in unset, bool(brought)] += 1
                else:
                    self.assertNotIn(use, unset)
        self.assertEqual(len(told), 3)


if __name__ == "__main__":
    unittest.main()
