"""Final trees: whether fixes of a plain set of rules lead from each tree to one of them, in whatever order."""

from ruleengine.crossings import meeting_roots
from ruleengine.errors import InvalidAnswer, InvalidTree, NotPlain
from ruleengine.forms import RAW, Form
from ruleengine.kinds import ROW_SIGN, TEXT, is_told, is_word
from ruleengine.patterns import Pattern
from ruleengine.shapes import nodes_in, replaced
from ruleengine.trackers import Tracker
from ruleengine.trees import Like, Tree, parts_with
from ruleengine.walks import walk_tree, wrong_path
from ruleengine.witnesses import fresh_texts, raw_leaf


class Crossing:
    """A pattern in which an upper and a lower rule find nodes, and the results of both fixes; made by all_crossings."""

    def __init__(self, names, path, patterns, trees):
        self.outer_rule, self.inner_rule = names
        self.path = path
        self.crossed, self.first, self.second = patterns
        self.trees = trees


class Descent:
    """Final trees to which fixes of a plain set of rules lead, from the innermost nodes on."""

    def __init__(self, fixer):
        self.fixer = fixer
        self._known = {}

    def ending(self, tree):
        """Return a final tree, and the pairs of the names and paths of the fixes that lead to it from a tree."""
        if tree.text not in self._known:
            self._known[tree.text] = self._fresh_ending(tree)
        return self._known[tree.text]

    def _fresh_ending(self, tree):
        """Return a final tree and the fixes that lead to it: those below, one at the root, and what comes then."""
        children = []
        steps = []
        for number, child in enumerate(tree.children):
            last, below = self.ending(child)
            children.append(last)
            steps.extend([(name, (number,) + path) for name, path in below])
        node = tree
        if len(steps) > 0:
            parts = parts_with(tree.parts, children)
            node = Tree(tree.form, *parts)
        for name in self.fixer.fixable:
            fixed = _fixed(self.fixer, name, node)
            if fixed is not None:
                last, later = self.ending(fixed)
                return last, (*steps, (name, ()), *later)
        return node, tuple(steps)


def all_crossings(fixer):
    """Return the tuple of the crossings of a plain set of rules."""
    for rule in fixer.rules.rules:
        if not _is_plain(fixer, rule):
            raise NotPlain(rule.name)
    texts = _leaf_texts(fixer)
    names = fixer.fixable
    crossings = []
    for spot, upper in enumerate(names):
        for other_spot, lower in enumerate(names):
            for path, *roots in meeting_roots(_roots_of(fixer, upper), _roots_of(fixer, lower), spot < other_spot):
                kin = fixer.rules.pattern(upper).kin
                patterns = [Pattern(fixer.rules.schema, root, kin) for root in roots]
                crossings.append(Crossing((upper, lower), path, patterns, _sample_trees(patterns, texts)))
    return tuple(crossings)


def decide_endings(fixer):
    """Return ("one", rows) if every tree has one final tree; the rows have the fixes that show it for each crossing.

    Otherwise return ("two", tree, steps, other steps) with fixes that lead from a tree to two final trees.
    """
    descent = Descent(fixer)
    rows = []
    for crossing in all_crossings(fixer):
        crossed, first, second = crossing.trees
        last, steps = descent.ending(first)
        other, other_steps = descent.ending(second)
        if last != other:
            upper = (crossing.outer_rule, ())
            lower = (crossing.inner_rule, crossing.path)
            return "two", crossed, (upper, *steps), (lower, *other_steps)
        rows.append((steps, other_steps))
    return "one", tuple(rows)


def check_endings(fixer, answer):
    """Return the first item of an answer that decide_endings could give; raise InvalidAnswer for any other value."""
    crossings = all_crossings(fixer)
    if is_told(answer, 2, ("one",)):
        is_right = _are_joined(fixer, crossings, answer[1])
    elif is_told(answer, 4, ("two",)):
        is_right = _are_two(fixer, answer[1], answer[2], answer[3])
    else:
        raise InvalidAnswer("form")
    if not is_right:
        raise InvalidAnswer(answer[0])
    return answer[0]


def _is_plain(fixer, rule):
    """Tell if a rule may be one of a plain set."""
    if rule.condition is not None or not is_word(rule.name, fixer.fixable) or not fixer.shrinks(rule.name):
        return False
    for pattern in (fixer.rules.pattern(rule.name), fixer.template(rule.name)):
        nodes, _ = nodes_in(pattern.root)
        if any([node.form.startswith(RAW) for node in nodes]):
            return False
        if any([takes.endswith(ROW_SIGN) for takes in pattern.all_taken().values()]):
            return False
    return True


def _roots_of(fixer, name):
    """Return the roots of the pattern and the template of a rule."""
    return fixer.rules.pattern(name).root, fixer.template(name).root


def _leaf_texts(fixer):
    """Return different texts that occur in no pattern and no template, as many as a pattern can have variables."""
    roots = []
    for name in fixer.fixable:
        roots.extend(list(_roots_of(fixer, name)))
    return fresh_texts(roots, Like.MAX_SIZE * (Form.MAX_SLOTS + 1))


def _sample_trees(patterns, texts):
    """Return the trees that patterns are with different leaves and texts in place of their variables."""
    values = {}
    for (name, takes), text in zip(patterns[0].all_taken().items(), texts):
        values[name] = text if takes == TEXT else raw_leaf(takes, text)
    return tuple([replaced(pattern.root, values) for pattern in patterns])


def _fixed(fixer, name, node):
    """Return what the fix of a rule without a condition puts in place of a node; None if it does not find it."""
    pattern = fixer.rules.pattern(name)
    binding, _ = walk_tree(pattern.schema, pattern.root, pattern.kin, node, {})
    return None if binding is None else fixer.fixed(name, binding)


def _are_joined(fixer, crossings, value):
    """Tell if a value of any kind has for each crossing the fixes that lead from both results to one tree."""
    if not isinstance(value, tuple) or len(value) != len(crossings):
        return False
    for crossing, row in zip(crossings, value):
        if not isinstance(row, tuple) or len(row) != 2:
            return False
        last = _led(fixer, crossing.trees[1], row[0])
        other = _led(fixer, crossing.trees[2], row[1])
        if last is None or last != other:
            return False
    return True


def _are_two(fixer, tree, steps, other_steps):
    """Tell if values of any kind are a tree, and fixes that lead from it to two different final trees."""
    if not isinstance(tree, Tree) or wrong_path(fixer.rules.schema, tree) is not None:
        return False
    tracker = Tracker(fixer.rules, fixer.fixable)
    last = _led(fixer, tree, steps)
    other = _led(fixer, tree, other_steps)
    if last is None or other is None or last == other:
        return False
    return tracker.first_found(last, False) is None and tracker.first_found(other, False) is None


def _led(fixer, tree, value):
    """Return the tree to which the fixes in a tuple lead from a tree; None for any other value."""
    if not isinstance(value, tuple):
        return None
    now = tree
    for step in value:
        now = _stepped(fixer, now, step)
        if now is None:
            return None
    return now


def _stepped(fixer, tree, value):
    """Return a tree after a fix that is given as a pair of a name and a path; None for any other value."""
    if not is_told(value, 2, fixer.fixable) or value[1] not in tree:
        return None
    try:
        fixed = _fixed(fixer, value[0], tree[value[1]])
        return None if fixed is None else tree.put(value[1], fixed)
    except InvalidTree:
        # A tree with too many levels does not count.
        return None
