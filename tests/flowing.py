"""Drawn programs, and a second way of finding what their flow is like: plainly, with no regard to time."""

import random

from ruleengine.flows import Flow, Plan
from ruleengine.forms import Form, Schema
from ruleengine.trees import Tree

SCHEMA = Schema(
    Form("Seq", "stmt", items="stmt*"), Form("Any", "stmt", one="stmt", two="stmt"),
    Form("Loop", "stmt", items="stmt*"),
    Form("Set", "stmt", word="text", items="stmt*"), Form("Use", "stmt", word="text"),
    Form("Stop", "stmt", items="stmt*"),
    Form("Leave", "stmt", items="stmt*"), Form("Again", "stmt", items="stmt*"))
FLOW = Flow(SCHEMA, {"Any": Plan("choice"), "Loop": Plan("loop"), "Set": Plan(sets="word"), "Use": Plan(uses="word"),
                     "Stop": Plan("stop"), "Leave": Plan("leave"), "Again": Plan("again")})
START = ((), "in")


def draw(rnd, levels):
    """A drawn program of at most so many levels."""
    name = rnd.choice(("Seq", "Any", "Loop", "Seq", "Loop", "Set", "Use", "Set", "Use", "Stop", "Leave", "Again"))
    if levels <= 1 and name == "Any":
        name = "Use"
    many = 0 if levels <= 1 or name in ("Use", "Stop", "Leave", "Again") and rnd.randrange(5) else rnd.randrange(4)
    if name == "Use":
        return Tree("Use", rnd.choice("ab"))
    if name == "Any":
        return Tree("Any", draw(rnd, levels - 1), draw(rnd, levels - 1))
    items = tuple(draw(rnd, levels - 1) for _ in range(many if name != "Set" or rnd.randrange(4) == 0 else 0))
    return Tree("Set", rnd.choice("ab"), items) if name == "Set" else Tree(name, items)


def programs(seed, many, most=30):
    """Drawn programs of several nodes."""
    rnd = random.Random(seed)
    while many > 0:
        tree = Tree("Seq", (draw(rnd, 4), draw(rnd, 4)))
        if len(tree) <= most:
            many -= 1
            yield rnd, tree


def order(tree, path):
    return FLOW.plan(tree[path].form).order


def nexts(tree, point):
    """The next points of a point, as the document tells them."""
    path, word = point
    children = [(*path, number) for number in range(len(tree[path].children))]
    if word == "in":
        if not children:
            return {(path, "deed")}
        if order(tree, path) == "choice":
            return {(child, "in") for child in children}
        return {(children[0], "in")} | ({(path, "deed")} if order(tree, path) == "loop" else set())
    if word == "deed":
        if order(tree, path) == "stop":
            return set()
        if order(tree, path) in ("leave", "again"):
            loops = [path[:length] for length in range(len(path)) if order(tree, path[:length]) == "loop"]
            if not loops:
                return set()
            return {(loops[-1], "deed")} | ({((*loops[-1], 0), "in")} if order(tree, path) == "again" else set())
        return {(path, "out")}
    if path == ():
        return set()
    upper, number = path[:-1], path[-1]
    if order(tree, upper) == "choice":
        return {(upper, "deed")}
    if number + 1 < len(tree[upper].children):
        return {((*upper, number + 1), "in")}
    return {(upper, "deed")} | ({((*upper, 0), "in")} if order(tree, upper) == "loop" else set())


def distances(tree, start, avoid):
    """How many steps lead at least from the start to each point, for those to which a way leads."""
    found = {}
    front = [start]
    steps = 0
    while front:
        steps += 1
        reached = [after for point in front for after in sorted(nexts(tree, point)) if after not in found]
        for after in reached:
            found[after] = steps
        front = [after for after in dict.fromkeys(reached) if after not in avoid]
    return found


def is_way(tree, question, points):
    """Tell if points are a way."""
    return (len(points) >= 2 and points[0] == question.start and points[-1] == question.goal
            and all(after in nexts(tree, point) for point, after in zip(points, points[1:]))
            and not any(point in question.avoid for point in points[1:-1]))


def is_closed(tree, question, points):
    """Tell if points are a closed set."""
    sources = [question.start] + [point for point in points if point not in question.avoid]
    return question.goal not in points and all(after in points for point in sources for after in nexts(tree, point))


def deeds(tree, kind):
    """Pairs of the path and the variable of each node that sets, or uses, one."""
    return [(path, tree[path].parts[0]) for path in tree.each_path() if tree[path].form == kind]


def leads(tree, start, avoid, goal):
    return goal in distances(tree, start, avoid)
