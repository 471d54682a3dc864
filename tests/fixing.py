"""Drawn templates, and a second way of making fixes: plainly, with no regard to time."""

import random

from ruleengine.conditions import Has
from ruleengine.errors import InvalidPart, InvalidRule, InvalidTemplate, InvalidTree
from ruleengine.fixes import Fixer
from ruleengine.rules import Rule, RuleSet
from ruleengine.trees import Like, Rest, Tree, Var, Word
from tests.drawn import SCHEMA, draw_node, put_in
from tests.second import finds, fits_under
from tests.test_rule_facts import draw_sharing_condition, draw_sharing_root


def taken_names(pattern):
    """The names of a pattern as `draw_node` takes them; a sort without names has one that the pattern has not."""
    names = {takes: ("none",) for takes in ("text", "expr", "stmt", "expr*", "stmt*")}
    for takes in names:
        found = tuple(name for name in pattern.variables if pattern.takes(name) == takes)
        names[takes] = found or names[takes]
    return names


def draw_template(rnd, pattern, levels=3):
    """A root whose variables are mostly those of a pattern."""
    return draw_node(rnd, pattern.kin, rnd.randrange(1, levels + 1), taken_names(pattern))


def draw_fixer(rnd, many=3, condition=None):
    """A fixer with drawn rules, some of which have templates; those that are not right are drawn again."""
    while True:
        rules = []
        for number in range(many):
            root = draw_sharing_root(rnd)
            where = draw_sharing_condition(rnd, 2) if condition is None and rnd.randrange(3) == 0 else None
            rules.append(Rule("r" + str(number), root, where, sort="expr"))
        try:
            made = RuleSet(SCHEMA, *rules)
            names = [rule.name for rule in rules if rnd.randrange(6)]
            return Fixer(made, {name: draw_template(rnd, made.pattern(name)) for name in names})
        except (InvalidPart, InvalidRule, InvalidTemplate):
            pass


def fixed_node(fixer, name, node):
    """What the fix of a rule puts in place of a node that fits its pattern."""
    return put_in(fixer.template(name).root, fixer.rules.pattern(name)(node))


def with_node(tree, path, other):
    """The tree with another one at a path, whatever its size; trees that are too large are none."""
    if not path:
        return other
    parts, number = [], 0
    for part in tree.parts:
        row = part if isinstance(part, tuple) else (part,)
        items = []
        for item in row:
            if isinstance(item, Tree):
                items.append(with_node(item, path[1:], other) if number == path[0] else item)
                number += 1
            else:
                items.append(item)
        parts.append(tuple(items) if isinstance(part, tuple) else items[0])
    return Tree(tree.form, *parts)


def found_pairs(fixer, tree):
    """The pairs of paths and names of all findings of rules with templates, by the second way."""
    return [(path, rule.name) for path in tree.each_path() for rule in fixer.rules.rules
            if rule.name in fixer.fixable and finds(fixer.rules.schema, rule, tree, path)]


def is_above(one, other):
    """Tell if a path is the beginning of another one, or equal to it."""
    return other[:len(one)] == one


def inner_key(path):
    """A key by which a node comes behind all nodes below it, and otherwise ascending."""
    return [(number, 0) for number in path] + [(10 ** 6, 1)]


def finished(fixer, tree, order, most):
    """The final tree and the fixes that lead to it in an order; "long" or "size" if that cannot be."""
    steps = []
    while True:
        pairs = found_pairs(fixer, tree)
        if not pairs:
            return tree, tuple(steps)
        if len(steps) == most:
            return "long"
        paths = {path for path, _ in pairs}
        path = min(paths) if order == "outer" else min(paths, key=inner_key)
        name = [rule for other, rule in pairs if other == path][0]
        try:
            tree = with_node(tree, path, fixed_node(fixer, name, tree[path]))
        except InvalidTree:
            return "size"
        steps.append((name, path))


def is_fitting(pattern, root):
    """Tell if a node fits a pattern."""
    return fits_under(SCHEMA, pattern.root, pattern.kin, root, {}) is not None
