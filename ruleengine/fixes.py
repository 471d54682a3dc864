"""Templates of rules, and the fixes that put them in place of what the rules find."""

from ruleengine.bits import is_in
from ruleengine.errors import (
    InvalidOrder, InvalidPattern, InvalidTemplate, Overlap, TooLong, UnknownName, WrongFinding)
from ruleengine.evidence import is_binding
from ruleengine.kinds import TEXT, is_word
from ruleengine.patterns import Pattern, check_tree, do_meet
from ruleengine.rules import Finding
from ruleengine.scenes import Scene
from ruleengine.shapes import nodes_in, replaced
from ruleengine.trackers import Tracker
from ruleengine.trees import Tree, parts_with

MAX_FIXES = 400
ORDERS = ("outer", "inner")


class Fixer:
    """A set of rules, and templates of some of them."""

    def __init__(self, rules, templates):
        table = {}
        for name, root in templates.items():
            # The pattern of a name that is not one of a rule raises UnknownName.
            table[name] = _checked_template(rules.pattern(name), name, root)
        self.rules = rules
        self.fixable = tuple([rule.name for rule in rules.rules if rule.name in table])
        self._templates = table

    def template(self, name):
        """Return the template of a rule as a pattern."""
        if not is_word(name, self.fixable):
            raise UnknownName(name)
        return self._templates[name]

    def fix(self, tree, finding):
        """Return a tree after the fix of a finding."""
        return self.fix_all(tree, finding)

    def fix_all(self, tree, *findings):
        """Return a tree after the fixes of findings that do not overlap."""
        check_tree(self.rules.schema, tree)
        scene = Scene(self.rules.schema, tree)
        numbers = []
        for spot, finding in enumerate(findings):
            number = self._number_of(scene, finding)
            if number is None:
                raise WrongFinding(spot)
            numbers.append(number)
        _check_apart(scene.layout, numbers)
        news = {}
        for number, finding in zip(numbers, findings):
            news[number] = self.fixed(finding.rule, finding.binding)
        return _tree_with(scene.layout, news)

    def settles(self, name):
        """Tell if a rule does not find a node that it has just fixed."""
        template = self.template(name)
        return not do_meet(self.rules.pattern(name), template)

    def shrinks(self, name):
        """Tell if a rule makes every tree smaller in which it is fixed."""
        template = self.template(name)
        pattern = self.rules.pattern(name)
        nodes, times = nodes_in(pattern.root)
        new_nodes, new_times = nodes_in(template.root)
        copied = [word for word in new_times if template.takes(word) != TEXT and new_times[word] > times[word]]
        return len(new_nodes) < len(nodes) and len(copied) == 0

    def finish(self, tree, order="outer"):
        """Return the final tree to which single fixes lead, and the pairs of the names and paths of these."""
        check_tree(self.rules.schema, tree)
        if not is_word(order, ORDERS):
            raise InvalidOrder(order)
        tracker = Tracker(self.rules, self.fixable)
        now = tree
        steps = []
        found = tracker.first_found(now, order == "inner")
        while found is not None:
            if len(steps) == MAX_FIXES:
                raise TooLong(MAX_FIXES)
            name, path, binding = found
            now = now.put(path, self.fixed(name, binding))
            steps.append((name, path))
            found = tracker.first_found(now, order == "inner")
        return now, tuple(steps)

    def fixed(self, name, binding):
        """Return the tree that the fix of a rule puts in place of a node that fits its pattern with a binding."""
        return replaced(self._templates[name].root, binding)

    def _number_of(self, scene, value):
        """Return the number of the node of a finding of a rule with a template; None for any other value."""
        if not isinstance(value, Finding) or not is_word(value.rule, self.fixable):
            return None
        number = scene.layout.number_at(value.path)
        probe = self.rules.probe_for(value.rule)
        if number is None or not is_in(number, scene.found_by(probe)):
            return None
        return number if is_binding(value.binding, scene.entry(probe, number)) else None


def do_overlap(one, other):
    """Tell if two findings overlap."""
    many = len(one.path) if len(one.path) < len(other.path) else len(other.path)
    return one.path[:many] == other.path[:many]


def innermost(findings):
    """Return the findings with no other one's path below theirs, one for each path."""
    firsts = _one_for_each_path(findings)
    above = {}
    for finding in firsts:
        for upper in _paths_above(finding.path):
            above[upper] = True
    return [finding for finding in firsts if finding.path not in above]


def outermost(findings):
    """Return the findings with no other one's path above theirs, one for each path."""
    firsts = _one_for_each_path(findings)
    paths = {finding.path: True for finding in firsts}
    return [finding for finding in firsts if not any([upper in paths for upper in _paths_above(finding.path)])]


def _one_for_each_path(findings):
    """Return the findings, without those that have the path of an earlier one."""
    paths = {}
    firsts = []
    for finding in findings:
        if finding.path not in paths:
            paths[finding.path] = True
            firsts.append(finding)
    return firsts


def _paths_above(path):
    """Return the paths that are properly above a path."""
    return [path[:length] for length in range(len(path))]


def _checked_template(pattern, name, root):
    """Return a template of the rule with a pattern; raise InvalidTemplate for its first fault."""
    try:
        template = Pattern(pattern.schema, root, pattern.kin)
    except InvalidPattern as why:
        raise InvalidTemplate(name, why.fault, why.item) from None
    for word in template.variables:
        if template.takes(word) != pattern.takes(word):
            raise InvalidTemplate(name, "variable", word)
    return template


def _check_apart(layout, numbers):
    """Raise Overlap with the first pair of positions whose nodes are the same, or one above the other."""
    for one, number in enumerate(numbers):
        for other in range(one + 1, len(numbers)):
            if _are_nested(layout, number, numbers[other]):
                raise Overlap(one, other)


def _are_nested(layout, one, other):
    """Tell if two nodes are the same, or one is above the other."""
    if one <= other:
        return other < layout.end_of(one)
    return one < layout.end_of(other)


def _tree_with(layout, news):
    """Return a tree with others in place of some nodes, which stand by the numbers of these in a dict."""
    nodes = list(layout.nodes)
    is_changed = {}
    # Each node comes behind those below it, so that no tree is made that is larger than the last one.
    for number in reversed(range(len(nodes))):
        if number in news:
            nodes[number] = news[number]
        elif number in is_changed:
            children = [nodes[child] for child in layout.child_numbers(number)]
            parts = parts_with(nodes[number].parts, children)
            nodes[number] = Tree(nodes[number].form, *parts)
        else:
            continue
        is_changed[layout.uppers[number]] = True
    return nodes[0]
