"""Suppressions of findings, and benches on which trees are edited."""

from ruleengine.bits import numbers_in, set_of, span
from ruleengine.errors import InvalidPath, LimitExceeded, NothingToUndo, UnknownName, WrongTree
from ruleengine.layouts import Layout
from ruleengine.patterns import check_tree
from ruleengine.trackers import looks_above


class Suppression:
    """A path at which and below which the findings of some rules are hidden; without names, those of all rules."""

    def __init__(self, path, *names):
        self.path = path
        self.silences = names

    def __eq__(self, other):
        return isinstance(other, Suppression) and self.path == other.path and self.silences == other.silences


class Veil:
    """The sets of the nodes that each rule finds, and those of them that no suppression hides so far."""

    def __init__(self, layout, names, pairs):
        self.layout = layout
        self._sets = {}
        for name in names:
            self._sets[name] = set_of([node for other, node in pairs if other == name])
        self._left = {name: self._sets[name] for name in names}
        self.spots = {}

    def cover(self, spot, suppression):
        """Hide findings by the suppression at a position; tell if it hides some, and if it is the first for some."""
        number = self.layout.numbers[suppression.path]
        below = span(number, self.layout.end_of(number))
        names = suppression.silences if len(suppression.silences) > 0 else tuple(self._sets.keys())
        is_first = False
        for name in names:
            for node in numbers_in(self._left[name] & below):
                self.spots[(name, node)] = spot
                is_first = True
            self._left[name] = self._left[name] & ~below
        return any([self._sets[name] & below != 0 for name in names]), is_first


class Report:
    """Which findings are shown and hidden, and which suppressions are unused and spare."""

    def __init__(self, shown, hidden, unused, spare):
        self.shown = shown
        self.hidden = hidden
        self.unused = unused
        self.spare = spare


class Bench:
    """A tree that is edited, with the findings of rules in it, and suppressions of these."""

    MAX_EDITS = 60

    def __init__(self, rules, tree):
        self.rules = rules
        self._earlier = []
        findings = tuple(rules.run(tree))
        self._take(tree, (), findings, len(rules) * len(tree))

    def put(self, path, other):
        """Put a tree at a path; the suppressions properly below it are taken away."""
        check_tree(self.rules.schema, other)
        # The node at a value that is no path raises InvalidPath.
        if not _have_one_sort(self.rules.schema, self.tree[path], other):
            raise WrongTree(())
        tree = self.tree.put(path, other)
        self._check_limit()
        kept = [one for one in self.suppressions if one.path == path or one.path[:len(path)] != path]
        findings = tuple(self.rules.run(tree))
        many = len(tree) if self._looks_above() else len(path) + len(other)
        self._keep()
        self._take(tree, tuple(kept), findings, len(self.rules) * many)

    def suppress(self, path, *names):
        """Add a suppression."""
        suppression = Suppression(path, *names)
        _check_suppression(self.rules, self.tree, suppression)
        self._check_limit()
        self._keep()
        self._take(self.tree, (*self.suppressions, suppression), self.findings, 0)

    def undo(self):
        """Undo the latest edit."""
        if len(self._earlier) == 0:
            raise NothingToUndo()
        tree, suppressions, findings, effort = self._earlier.pop()
        self._take(tree, suppressions, findings, effort)

    def report(self):
        """Return the report of the bench."""
        return _reported(self.rules, self.tree, self.findings, self.suppressions)

    def history(self):
        """Yield the trees after 0, 1, 2, .. of the edits that have not been undone."""
        trees = [state[0] for state in self._earlier] + [self.tree]
        for tree in trees:
            yield tree

    def _check_limit(self):
        """Raise LimitExceeded if there are as many edits as the limit already."""
        if len(self._earlier) >= Bench.MAX_EDITS:
            raise LimitExceeded(Bench.MAX_EDITS)

    def _keep(self):
        """Keep what the bench is like, so that the next edit can be undone."""
        self._earlier.append((self.tree, self.suppressions, self.findings, self.effort))

    def _take(self, tree, suppressions, findings, effort):
        """Make the bench what it is after an edit."""
        self.tree = tree
        self.suppressions = suppressions
        self.findings = findings
        self.effort = effort

    def _looks_above(self):
        """Tell if an Inside occurs in a condition of the rules."""
        return any([looks_above(self.rules.probe_for(rule.name)) for rule in self.rules.rules])


def reported(rules, tree, *suppressions):
    """Return the report of the findings of rules in a tree, of which suppressions hide some."""
    check_tree(rules.schema, tree)
    for suppression in suppressions:
        _check_suppression(rules, tree, suppression)
    findings = tuple(rules.run(tree))
    return _reported(rules, tree, findings, suppressions)


def _reported(rules, tree, findings, suppressions):
    """Return the report of findings in a tree."""
    layout = Layout(tree)
    pairs = [(finding.rule, layout.numbers[finding.path]) for finding in findings]
    veil = Veil(layout, [rule.name for rule in rules.rules], pairs)
    unused = []
    spare = []
    for spot, suppression in enumerate(suppressions):
        is_used, is_first = veil.cover(spot, suppression)
        if not is_used:
            unused.append(spot)
        elif not is_first:
            spare.append(spot)
    shown = []
    hidden = []
    for finding, pair in zip(findings, pairs):
        if pair in veil.spots:
            hidden.append((finding, veil.spots[pair]))
        else:
            shown.append(finding)
    return Report(tuple(shown), tuple(hidden), tuple(unused), tuple(spare))


def _check_suppression(rules, tree, suppression):
    """Raise InvalidPath or UnknownName if a suppression has no path of a node, or a name that is not one of a rule."""
    if suppression.path not in tree:
        raise InvalidPath(suppression.path)
    for name in suppression.silences:
        if name not in rules:
            raise UnknownName(name)


def _have_one_sort(schema, one, other):
    """Tell if two nodes have the same sort."""
    return schema[one.form].kin == schema[other.form].kin
