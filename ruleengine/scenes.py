"""Trees in which conditions are judged.

Bindings are dicts from names to pairs here, of a key and the thing for which the name stands; the keys are equal for
equal things, and quickly compared. Nodes are known by their numbers, and sets of nodes are those of ruleengine.bits.
"""

from ruleengine.bits import greatest, least, numbers_in, set_of, span
from ruleengine.layouts import Layout
from ruleengine.trees import Tree, Var
from ruleengine.walks import WRONG_FORM, walk_tree


class Scene:
    """A tree of a schema, with what was found out about probes in it so far.

    Walks are known by the texts of their nodes, so those of an earlier scene can be taken where the trees have much in
    common.
    """

    def __init__(self, schema, tree, earlier=None):
        self.schema = schema
        self.layout = Layout(tree)
        self.walks = {}
        self._earlier = {} if earlier is None else earlier.walks
        self._forms = _numbers_by_form(self.layout.nodes)
        self._everywhere = span(0, len(tree))
        self._below = [span(number + 1, self.layout.end_of(number)) for number in range(len(tree))]
        self._above = _sets_above(self.layout.uppers)
        self._entries = {}
        self._tables = {}
        self._groups = {}
        self._seen = {}
        self._truths = {}
        self._finds = {}

    def entry(self, probe, number):
        """Return the binding with which a node fits the root of a probe where nothing is bound, or None."""
        return self._walked(probe, number)[0]

    def misfit(self, probe, number, bound):
        """Return the first mismatch of the root of a probe and a node under a binding; None if it fits."""
        first = self._walked(probe, number)[1]
        if len(probe.shared) == 0 or first == WRONG_FORM:
            return first
        return self._walk(probe, number, {name: bound[name][1] for name in probe.shared})[1]

    def larger(self, probe, number, bound):
        """Return the binding for the inner condition of a probe, at a node that fits its root."""
        entry = self.entry(probe, number)
        return {**bound, **entry}

    def places(self, probe, number):
        """Return the numbers of the nodes at which Has or Inside looks, in their order."""
        if probe.word == "has":
            return list(range(number + 1, self.layout.end_of(number)))
        return self.layout.above(number)

    def fitting(self, probe, bound):
        """Return the set of all nodes that fit the root of a probe under a binding."""
        table = self._fit_sets(probe)
        rows = table.get(_keys(bound, probe.old), {})
        return rows.get(_keys(bound, probe.new), 0)

    def satisfying(self, probe, bound):
        """Return the set of all nodes that fit the root of a probe, and at which its inner condition holds."""
        nodes = self.fitting(probe, bound)
        if len(probe.inner) == 0 or nodes == 0:
            return nodes
        return nodes & self._truth(probe.inner[0], probe, bound)

    def found_by(self, probe):
        """Return the set of all nodes that a rule finds."""
        if probe not in self._finds:
            self._finds[probe] = self.satisfying(probe, {})
        return self._finds[probe]

    def first_place(self, probe, number, bound):
        """Return the first node at which Has or Inside finds what it looks for, or None."""
        nodes = self.satisfying(probe, bound) & self._sight(probe, number)
        if nodes == 0:
            return None
        return least(nodes) if probe.word == "has" else greatest(nodes)

    def holds(self, probe, number, bound):
        """Tell if a condition holds at a node under a binding."""
        if probe.word == "not":
            return not self.holds(probe.inner[0], number, bound)
        if probe.word == "all":
            return self.first_inner(probe, number, bound, False) is None
        if probe.word == "some":
            return self.first_inner(probe, number, bound, True) is not None
        return self.first_place(probe, number, bound) is not None

    def first_inner(self, probe, number, bound, is_held):
        """Return the position of the first inner condition that holds, or of the first one that does not, or None."""
        for spot, inner in enumerate(probe.inner):
            if self.holds(inner, number, bound) == is_held:
                return spot
        return None

    def _truth(self, probe, owner, bound):
        """Return the set of the nodes that fit the root of an owner and at which an inner condition of it holds.

        At each node the binding is made larger by that with which the node fits.
        """
        if probe.word == "not":
            return self._everywhere ^ self._truth(probe.inner[0], owner, bound)
        if probe.word == "all":
            nodes = self._everywhere
            for inner in probe.inner:
                nodes = nodes & self._truth(inner, owner, bound)
            return nodes
        if probe.word == "some":
            nodes = 0
            for inner in probe.inner:
                nodes = nodes | self._truth(inner, owner, bound)
            return nodes
        keys = _keys(bound, probe.outer)
        # Calls with the same keys follow each other, so the last answer is enough.
        if probe not in self._truths or self._truths[probe][0] != keys:
            self._truths[probe] = (keys, self._found_from(probe, owner, bound))
        return self._truths[probe][1]

    def _found_from(self, probe, owner, bound):
        """Return the set of the nodes that fit the root of an owner and at which its inner Has or Inside holds."""
        table = self._fit_sets(probe)
        rows = table.get(_keys(bound, probe.old), {})
        if len(rows) == 0:
            return 0
        groups = self._grouped(probe, owner)
        found = 0
        for keys, nodes in rows.items():
            same = groups.get(keys, {})
            for part, group in same.values():
                if len(probe.inner) == 0:
                    found = found | (group & self._all_that_see(probe, nodes))
                else:
                    places = nodes & self._truth(probe.inner[0], probe, {**bound, **part})
                    found = found | self._those_that_see(probe, places, group)
        return found

    def _grouped(self, probe, owner):
        """Return the nodes that fit the root of an owner, in groups that look the same from its inner condition.

        They stand by the keys of the new names in the root of this, and below that by the keys of all its own names.
        A group is a pair of what these names stand for, and a set.
        """
        if probe not in self._groups:
            groups = {}
            for number, entry in self._fits(owner):
                rows = groups.setdefault(_keys(entry, probe.new), {})
                keys = _keys(entry, probe.own)
                part, group = rows.get(keys, ({name: entry[name] for name in probe.own}, 0))
                rows[keys] = (part, group | (1 << number))
            self._groups[probe] = groups
        return self._groups[probe]

    def _fit_sets(self, probe):
        """Return the sets of the nodes that fit the root of a probe.

        They stand by the keys of the old names in it, and below that by the keys of the new ones.
        """
        if probe not in self._tables:
            table = {}
            for number, entry in self._fits(probe):
                rows = table.setdefault(_keys(entry, probe.old), {})
                keys = _keys(entry, probe.new)
                rows[keys] = rows.get(keys, 0) | (1 << number)
            self._tables[probe] = table
        return self._tables[probe]

    def _sight(self, probe, number):
        """Return the set of the nodes at which Has or Inside looks from a node."""
        return self._below[number] if probe.word == "has" else self._above[number]

    def _all_that_see(self, probe, nodes):
        """Return the set of the nodes from which Has or Inside looks at one of some nodes."""
        at = (probe.word, nodes)
        if at not in self._seen:
            seen = 0
            for number in numbers_in(nodes):
                seen = seen | (self._above[number] if probe.word == "has" else self._below[number])
            self._seen[at] = seen
        return self._seen[at]

    def _those_that_see(self, probe, nodes, group):
        """Return the set of the nodes of a group from which Has or Inside looks at one of some nodes."""
        if nodes == 0:
            return 0
        return set_of([number for number in numbers_in(group) if self._sight(probe, number) & nodes != 0])

    def _fits(self, probe):
        """Return the pairs of the nodes that fit the root of a probe and the bindings with which they do."""
        if probe.label not in self._entries:
            root = probe.wanted.root
            numbers = list(range(len(self.layout.nodes)))
            if not isinstance(root, Var):
                numbers = self._forms.get(root.form, [])
            pairs = [(number, self.entry(probe, number)) for number in numbers]
            self._entries[probe.label] = [pair for pair in pairs if pair[1] is not None]
        return self._entries[probe.label]

    def _walk(self, probe, number, given):
        """Walk through the root of a probe and a node where some names are bound."""
        pattern = probe.wanted
        return walk_tree(self.schema, pattern.root, pattern.kin, self.layout.nodes[number], given)

    def _walked(self, probe, number):
        """Return the binding and the first mismatch where nothing is bound; one of both is None."""
        root = probe.wanted.root
        node = self.layout.nodes[number]
        # Most nodes have another form, and need no walk.
        if not isinstance(root, Var) and root.form != node.form:
            return None, WRONG_FORM
        at = (probe.label, node.text)
        if at not in self.walks:
            self.walks[at] = self._earlier[at] if at in self._earlier else self._fresh_walk(probe, number)
        return self.walks[at]

    def _fresh_walk(self, probe, number):
        """Walk through the root of a probe and a node where nothing is bound."""
        found, first = self._walk(probe, number, {})
        entry = None
        if found is not None:
            entry = {name: (_key_of(found[name]), found[name]) for name in found}
        return entry, first


def _numbers_by_form(nodes):
    """Return a dict from the forms of nodes to the lists of their numbers."""
    numbers = {}
    for number, node in enumerate(nodes):
        numbers.setdefault(node.form, []).append(number)
    return numbers


def _sets_above(uppers):
    """Return the set of the nodes above each node, from the number of the next one above each, None for the root."""
    sets = []
    for upper in uppers:
        sets.append(0 if upper is None else sets[upper] | (1 << upper))
    return sets


def _keys(bound, names):
    """Return the keys of the things for which some names stand."""
    return tuple([bound[name][0] for name in names])


def _key_of(thing):
    """Return what is equal for equal things of one kind, and can be a key of a dict."""
    if isinstance(thing, Tree):
        return thing.text
    if isinstance(thing, tuple):
        return tuple([tree.text for tree in thing])
    return thing
