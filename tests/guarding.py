"""Drawn rules and guards over drawn programs, and a second way of judging guards.

A guard is told as a tuple here: ("reached",), ("unset", word), ("later", word), ("and", one, other),
("or", one, other) or ("not", one).
"""

from ruleengine.guards import FlowRules, Later, Reached, Unset
from ruleengine.rules import Rule, RuleSet
from ruleengine.trees import Like, Rest, Var, Word
from tests.flowing import FLOW, SCHEMA, START, deeds, distances, is_closed, is_way

# Roots with the names of their Words.
ROOTS = (
    (Var("x"), ()),
    (Like("Set", Word("n"), (Rest("r"),)), ("n",)),
    (Like("Use", Word("n")), ("n",)),
    (Like("Seq", (Like("Set", Word("n"), (Rest("q"),)), Rest("r"))), ("n",)),
    (Like("Seq", (Var("x"), Like("Use", Word("m")), Rest("r"))), ("m",)),
    (Like("Any", Like("Set", Word("m"), (Rest("r"),)), Like("Use", Word("n"))), ("m", "n")),
    (Like("Loop", (Like("Use", Word("n")), Like("Set", Word("m"), (Rest("q"),)), Rest("r"))), ("n", "m")),
    (Like("Loop", (Rest("r"),)), ()),
    (Like("Stop", (Rest("r"),)), ()),
)


def draw_guard(rnd, words, levels=3):
    """A told guard whose words are some of these."""
    kind = rnd.choice(("leaf", "and", "or", "not")) if levels > 0 else "leaf"
    if kind == "not":
        return "not", draw_guard(rnd, words, levels - 1)
    if kind != "leaf":
        return kind, draw_guard(rnd, words, levels - 1), draw_guard(rnd, words, levels - 1)
    kind = rnd.choice(("reached", "unset", "later") if words else ("reached",))
    return ("reached",) if kind == "reached" else (kind, rnd.choice(words))


def made(told):
    """The guard of the package that is told."""
    if told[0] in ("and", "or"):
        one, other = made(told[1]), made(told[2])
        return one & other if told[0] == "and" else one | other
    if told[0] == "not":
        return -made(told[1])
    return {"reached": Reached, "unset": Unset, "later": Later}[told[0]](*told[1:])


def draw_rules(rnd, many=4):
    """Rules with drawn roots, and a dict of told guards of some of them."""
    rules, told = [], {}
    for number in range(many):
        root, words = rnd.choice(ROOTS)
        name = "r" + str(number)
        rules.append(Rule(name, root, sort="stmt"))
        if rnd.randrange(5):
            told[name] = draw_guard(rnd, words, rnd.randrange(4))
    return RuleSet(SCHEMA, *rules), told


def guarded(rules, told):
    """The rules with the guards that are told."""
    return FlowRules(rules, FLOW, {name: made(guard) for name, guard in told.items()})


def asked(told, tree, path, binding):
    """The start, the points to avoid and the goals of what is asked by a guard that is no joined one."""
    if told[0] == "reached":
        return START, (), [(path, "in")]
    word = binding[told[1]]
    avoid = tuple((other, "deed") for other, name in deeds(tree, "Set") if name == word)
    if told[0] == "unset":
        return START, avoid, [(path, "deed")]
    return (path, "deed"), avoid, [(other, "deed") for other, name in deeds(tree, "Use") if name == word]


def holds(told, tree, path, binding):
    """Tell if a guard holds for a finding at a path."""
    if told[0] == "not":
        return not holds(told[1], tree, path, binding)
    if told[0] == "and":
        return all(holds(inner, tree, path, binding) for inner in told[1:])
    if told[0] == "or":
        return any(holds(inner, tree, path, binding) for inner in told[1:])
    if told[0] == "reached" and path == ():
        return True
    start, avoid, goals = asked(told, tree, path, binding)
    found = distances(tree, start, avoid)
    return any(goal in found for goal in goals)


class Asked:
    """A question with one of several goals."""

    def __init__(self, start, avoid, goal):
        self.start, self.avoid, self.goal = start, avoid, goal


def is_proof(told, tree, path, binding, is_held, proof):
    """Tell if a tuple gives the grounds on which a guard holds, or refutes it."""
    if told[0] == "not":
        return len(proof) == 2 and proof[0] == "not" and is_proof(
            told[1], tree, path, binding, not is_held, proof[1])
    if told[0] in ("and", "or"):
        if len(proof) != 3:
            return False
        if (told[0] == "and") == is_held:
            return proof[0] == "each" and all(
                is_proof(inner, tree, path, binding, is_held, item) for inner, item in zip(told[1:], proof[1:]))
        return proof[0] == "one" and proof[1] in (0, 1) and is_proof(
            told[1 + proof[1]], tree, path, binding, is_held, proof[2])
    if told[0] == "reached" and path == ():
        return is_held and proof == ("root",)
    if proof[0] != ("path" if is_held else "closed") or len(proof) != 2:
        return False
    start, avoid, goals = asked(told, tree, path, binding)
    if is_held:
        return any(is_way(tree, Asked(start, avoid, goal), proof[1]) for goal in goals)
    # Without any goal, a set has only to contain what follows.
    return all(is_closed(tree, Asked(start, avoid, goal), proof[1]) for goal in [*goals, None])
