"""Rules that look at one tree after the other, where each has much in common with the one before."""

from ruleengine.bits import is_in
from ruleengine.evidence import things_in
from ruleengine.scenes import Scene


class Tracker:
    """Some rules of a set, with what they found in the latest tree.

    Without an Inside, it depends on the tree at a node alone if a rule finds it: then the text of the tree tells.
    """

    def __init__(self, rules, names):
        self.schema = rules.schema
        self.probes = {name: rules.probe_for(name) for name in names}
        self.is_local = not any([looks_above(probe) for probe in self.probes.values()])
        self._latest = None
        self._known = {}

    def first_found(self, tree, is_inner):
        """Return the name, the path and the binding of the first finding in a tree, or None.

        The inner order has each node behind those below it.
        """
        scene = Scene(self.schema, tree, self._latest)
        layout = scene.layout
        # Only what is known of this tree is kept: the texts of all earlier ones could be too long together.
        self._known = {node.text: self._known[node.text] for node in layout.nodes if node.text in self._known}
        self._latest = scene
        for number in layout.inner_numbers() if is_inner else list(range(len(layout.nodes))):
            name = self._first_name(scene, number)
            if name is not None:
                return name, layout.paths[number], things_in(scene.entry(self.probes[name], number))
        return None

    def _first_name(self, scene, number):
        """Return the name of the first rule that finds a node, or None."""
        text = scene.layout.nodes[number].text
        if self.is_local and text in self._known:
            return self._known[text]
        found = None
        for name, probe in self.probes.items():
            if _is_found(scene, probe, number):
                found = name
                break
        self._known[text] = found
        return found


def looks_above(probe):
    """Tell if an Inside occurs in a rule or a condition."""
    return probe.word == "inside" or any([looks_above(inner) for inner in probe.inner])


def _is_found(scene, probe, number):
    """Tell if a rule finds a node."""
    # The condition is judged at all nodes at once, and only if some node fits the pattern.
    if scene.entry(probe, number) is None:
        return False
    return len(probe.inner) == 0 or is_in(number, scene.found_by(probe))
