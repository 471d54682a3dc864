"""Rules, their findings, and sets of rules."""

from ruleengine.bits import is_in
from ruleengine.conditions import Condition
from ruleengine.errors import InvalidAnswer, InvalidPath, InvalidPattern, InvalidRule, UnknownName
from ruleengine.evidence import evidence, is_binding, is_evidence, things_in
from ruleengine.kinds import is_name, is_same, is_told
from ruleengine.patterns import Pattern, check_tree, do_meet
from ruleengine.probes import probe_of_rule
from ruleengine.scenes import Scene


class Rule:
    """A name, the root of a pattern, and perhaps a condition."""

    def __init__(self, name, root, condition=None, *, sort=None):
        self.name = name
        self.root = root
        self.condition = condition
        self.kin = sort


class Finding:
    """The name of a rule, the path of a node that it finds, and the binding with which this fits the pattern."""

    def __init__(self, rule, path, binding):
        self.rule = rule
        self.path = path
        # Nothing is checked, so a finding that none is can be told later.
        self._things = dict(binding) if isinstance(binding, dict) else binding

    @property
    def binding(self):
        """What the variables of the pattern stand for."""
        return dict(self._things) if isinstance(self._things, dict) else self._things

    def __eq__(self, other):
        if not isinstance(other, Finding):
            return False
        return self.rule == other.rule and self.path == other.path and self._things == other._things


class RuleSet:
    """Rules of one schema, with different names."""

    MAX_RULES = 12

    def __init__(self, schema, *rules):
        table = {}
        probes = {}
        for spot, rule in enumerate(rules):
            if not isinstance(rule, Rule):
                raise InvalidRule(spot, "rule")
            if not is_name(rule.name) or rule.name in table:
                raise InvalidRule(spot, "name", rule.name)
            table[rule.name] = rule
            probes[rule.name] = _probe_of(schema, rule, spot)
        if len(rules) > RuleSet.MAX_RULES:
            raise InvalidRule(RuleSet.MAX_RULES, "size")
        self.schema = schema
        self.rules = rules
        self._table = table
        self._probes = probes

    @classmethod
    def of(cls, schema, rules):
        """Create a set of rules that are given as a tuple."""
        if not isinstance(rules, tuple):
            raise InvalidRule(0, "rule")
        return cls(schema, *rules)

    def __len__(self):
        return len(self.rules)

    def __contains__(self, x):
        return isinstance(x, str) and x in self._table

    def __getitem__(self, at):
        if not isinstance(at, str) or at not in self._table:
            raise UnknownName(at)
        return self._table[at]

    def __iter__(self):
        raise TypeError("a set of rules is not iterated over")

    def pattern(self, name):
        """Return the pattern of a rule."""
        return self.probe_for(name).wanted

    def probe_for(self, name):
        """Return the probe of a rule."""
        if name not in self:
            raise UnknownName(name)
        return self._probes[name]

    def relation(self, one, other):
        """Return how the patterns of two rules stand to each other."""
        first = self.pattern(one)
        second = self.pattern(other)
        if first.kin != second.kin or not do_meet(first, second):
            return "apart"
        if first == second:
            return "same"
        if first <= second:
            return "below"
        return "above" if second <= first else "meet"

    def run(self, tree):
        """Yield the findings, ascending by paths, and at each path in the order of the rules."""
        check_tree(self.schema, tree)
        scene = Scene(self.schema, tree)
        found = [(name, probe, scene.found_by(probe)) for name, probe in self._probes.items()]
        for number, path in enumerate(scene.layout.paths):
            for name, probe, nodes in found:
                if is_in(number, nodes):
                    yield Finding(name, path, things_in(scene.entry(probe, number)))

    def judge(self, name, tree, path):
        """Return ("found", binding, grounds) if a rule finds a node, and ("not", reason) otherwise."""
        probe, scene, number = self._place(name, tree, path)
        entry = scene.entry(probe, number)
        if entry is None:
            return "not", ("mismatch", scene.misfit(probe, number, {}))
        if len(probe.inner) == 0:
            return "found", things_in(entry), None
        if scene.holds(probe.inner[0], number, entry):
            return "found", things_in(entry), evidence(scene, probe.inner[0], number, entry, True)
        return "not", ("condition", evidence(scene, probe.inner[0], number, entry, False))

    def binding_at(self, name, tree, path):
        """Return the binding with which a rule finds a node, or None."""
        probe, scene, number = self._place(name, tree, path)
        entry = scene.entry(probe, number)
        if entry is None or not all([scene.holds(inner, number, entry) for inner in probe.inner]):
            return None
        return things_in(entry)

    def check(self, name, tree, path, answer):
        """Return the first item of an answer that judge could give; raise InvalidAnswer for any other value."""
        probe, scene, number = self._place(name, tree, path)
        if is_told(answer, 3, ("found",)):
            entry = scene.entry(probe, number)
            if entry is None or not is_binding(answer[1], entry):
                raise InvalidAnswer("binding")
            is_right = _is_why_found(scene, probe, number, answer[2])
        elif is_told(answer, 2, ("not",)):
            is_right = _is_why_not(scene, probe, number, answer[1])
        else:
            raise InvalidAnswer("form")
        if not is_right:
            raise InvalidAnswer("reason")
        return answer[0]

    def _place(self, name, tree, path):
        """Return the probe of a rule, the scene of a tree, and the number of the node at a path."""
        probe = self.probe_for(name)
        check_tree(self.schema, tree)
        scene = Scene(self.schema, tree)
        number = scene.layout.number_at(path)
        if number is None:
            raise InvalidPath(path)
        return probe, scene, number


def _probe_of(schema, rule, spot):
    """Return the probe of a rule with a right name; raise InvalidRule for the first fault of the rest."""
    try:
        pattern = Pattern(schema, rule.root, rule.kin)
        if rule.condition is not None and not isinstance(rule.condition, Condition):
            raise InvalidRule(spot, "condition")
        return probe_of_rule(pattern, rule.condition)
    except InvalidPattern as why:
        raise InvalidRule(spot, why.fault, why.item) from None


def _is_why_found(scene, probe, number, value):
    """Tell if a value of any kind gives the grounds on which the condition of a rule holds."""
    if len(probe.inner) == 0:
        return value is None
    return is_evidence(scene, probe.inner[0], number, scene.entry(probe, number), True, value)


def _is_why_not(scene, probe, number, value):
    """Tell if a value of any kind gives the reason why a rule does not find a node."""
    entry = scene.entry(probe, number)
    if entry is None:
        return is_same(value, ("mismatch", scene.misfit(probe, number, {})))
    if len(probe.inner) == 0 or not is_told(value, 2, ("condition",)):
        return False
    return is_evidence(scene, probe.inner[0], number, entry, False, value[1])
