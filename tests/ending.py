"""Drawn plain sets of rules, and a second way of finding crossings and final trees: by terms, and by all orders."""

from ruleengine.fixes import Fixer
from ruleengine.rules import Rule, RuleSet
from ruleengine.trees import Like, Tree, Var, Word
from tests.drawn import SCHEMA
from tests.fixing import found_pairs, fixed_node, with_node
from tests.second import below, renamed, term, unified

# A term for what is not told, one for each place.
FREE = [("var", "free" + str(number)) for number in range(4)]
END = ("end",)


def draw_part(rnd, levels, names, words):
    """A node of a pattern without rests and raw forms."""
    if levels <= 1 or rnd.randrange(3) == 0:
        kind = rnd.randrange(4)
        if kind < 2 and names:
            return Var(rnd.choice(names))
        if kind == 2:
            return Like("Num", rnd.choice([Word(word) for word in words] + ["a", "b"]))
        return Tree("One")
    kind = rnd.randrange(7)
    if kind < 4:
        return Like("Neg", draw_part(rnd, levels - 1, names, words))
    if kind < 6:
        return Like("Add", draw_part(rnd, levels - 1, names, words), draw_part(rnd, levels - 1, names, words))
    row = tuple(draw_part(rnd, levels - 1, names, words) for _ in range(rnd.randrange(1, 3)))
    return Like("Call", rnd.choice([Word(word) for word in words] + ["a"]), row)


def draw_plain(rnd, many=2, levels=3):
    """A fixer with a drawn plain set of rules."""
    rules, templates = [], {}
    while len(rules) < many:
        root = draw_part(rnd, levels, ("x", "y"), ("u",))
        if isinstance(root, Var):
            continue
        rule = Rule("r" + str(len(rules)), root)
        pattern = RuleSet(SCHEMA, rule).pattern(rule.name)
        names = [name for name in pattern.variables if pattern.takes(name) == "expr"]
        words = [name for name in pattern.variables if pattern.takes(name) == "text"]
        for _ in range(10):
            template = draw_part(rnd, rnd.randrange(1, levels + 1), names, words)
            if Fixer(RuleSet(SCHEMA, rule), {rule.name: template}).shrinks(rule.name):
                rules.append(rule)
                templates[rule.name] = template
                break
    return Fixer(RuleSet(SCHEMA, *rules), templates)


def children(one):
    """The terms of the nodes and Vars that are children of the term of a node."""
    found = []
    waiting = list(below(one))
    while waiting:
        inner = waiting.pop(0)
        if inner[0] == "item":
            waiting[:0] = inner[1:]
        elif inner[0] in ("node", "var"):
            found.append(inner)
    return found


def node_paths(one):
    """The pairs of the paths and the terms of all nodes with forms in a term, ascending."""
    if one[0] != "node":
        return []
    found = [((), one)]
    for number, inner in enumerate(children(one)):
        found.extend(((number, *path), what) for path, what in node_paths(inner))
    return found


def put_term(one, path, other):
    """The term of a node with another one at a path."""
    if not path:
        return other
    passed = [0]

    def change(inner):
        if inner[0] == "item":
            return ("item", *[change(each) for each in inner[1:]])
        if inner[0] in ("node", "var"):
            passed[0] += 1
            return put_term(inner, path[1:], other) if passed[0] - 1 == path[0] else inner
        return inner

    return (*one[:2], *[change(inner) for inner in one[2:]])


def row(*terms):
    """The term of a row of terms."""
    return ("item", terms[0], row(*terms[1:])) if terms else END


def measures(one):
    """The number of nodes and Vars in a term, and of their levels."""
    own = int(one[0] in ("node", "var"))
    inner = [measures(each) for each in below(one)] if one[0] not in ("var", "word", "rest") else []
    return own + sum(size for size, _ in inner), own + max([levels for _, levels in inner], default=0)


def is_large(one):
    """Tell if a term is larger than a pattern may be."""
    size, levels = measures(one)
    return size > 60 or levels > 8


def crossings(fixer):
    """The crossings as tuples: both names, the path, and the terms of the crossed pattern and the results."""
    names = [rule.name for rule in fixer.rules.rules]
    found = []
    for spot, upper in enumerate(names):
        for other_spot, lower in enumerate(names):
            top, top_template = [renamed(term(one.root), "a_") for one in (
                fixer.rules.pattern(upper), fixer.template(upper))]
            low, low_template = [renamed(term(one.root), "b_") for one in (
                fixer.rules.pattern(lower), fixer.template(lower))]
            for path, part in node_paths(top):
                if path == () and spot >= other_spot:
                    continue
                both = unified(row(top, part, top_template, low_template), row(FREE[0], low, FREE[1], FREE[2]))
                if isinstance(both, str):
                    continue
                crossed, rest = both[1:]
                first, rest = rest[2][1:]
                second = put_term(crossed, path, rest[1])
                found.append((upper, lower, path, crossed, first, second))
    return found


def all_finals(fixer, tree, most=400):
    """The texts of all final trees to which single fixes lead from a tree; None if there are too many trees."""
    seen = {tree.text: tree}
    waiting = [tree]
    finals = set()
    while waiting:
        now = waiting.pop()
        pairs = found_pairs(fixer, now)
        if not pairs:
            finals.add(now.text)
        for path, name in pairs:
            after = with_node(now, path, fixed_node(fixer, name, now[path]))
            if after.text not in seen:
                seen[after.text] = after
                waiting.append(after)
        if len(seen) > most:
            return None
    return finals


def led(fixer, tree, steps):
    """The tree to which fixes lead; None if one of them is no fix."""
    for name, path in steps:
        if path not in list(tree.each_path()) or (path, name) not in found_pairs(fixer, tree):
            return None
        tree = with_node(tree, path, fixed_node(fixer, name, tree[path]))
    return tree


def is_right(fixer, trees, answer):
    """Tell if an answer of the right form is a correct one; the trees of the crossings are given."""
    if answer[0] == "one":
        if len(answer[1]) != len(trees):
            return False
        for (_, first, second), (steps, other_steps) in zip(trees, answer[1]):
            last, other = led(fixer, first, steps), led(fixer, second, other_steps)
            if last is None or other is None or last.text != other.text:
                return False
        return True
    last, other = led(fixer, answer[1], answer[2]), led(fixer, answer[1], answer[3])
    if last is None or other is None or last.text == other.text:
        return False
    return not found_pairs(fixer, last) and not found_pairs(fixer, other)
