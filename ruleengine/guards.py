"""Guards: what the flow of a program has to be like where a rule finds a node.

Each class has the operators in its own body, because the interface is to stand there and not only in a base class.
"""

from ruleengine.errors import InvalidAnswer, InvalidGuard, OtherSchema
from ruleengine.kinds import TEXT, is_told
from ruleengine.watches import Watch


class Guard:
    """The base class of all guards; it is never created itself."""

    def __and__(self, other):
        return _both(self, other)

    def __or__(self, other):
        return _either(self, other)

    def __neg__(self):
        return Opposite(self)


class Reached(Guard):
    """The node is reached."""

    WORD = "reached"

    def __init__(self):
        self.word = None
        self.inner = ()

    def __and__(self, other):
        return _both(self, other)

    def __or__(self, other):
        return _either(self, other)

    def __neg__(self):
        return Opposite(self)


class Unset(Guard):
    """Some way to the deed of the node avoids all deeds that set a variable."""

    WORD = "unset"

    def __init__(self, word):
        self.word = word
        self.inner = ()

    def __and__(self, other):
        return _both(self, other)

    def __or__(self, other):
        return _either(self, other)

    def __neg__(self):
        return Opposite(self)


class Later(Guard):
    """Some way from the deed of the node to a use of a variable avoids all deeds that set it."""

    WORD = "later"

    def __init__(self, word):
        self.word = word
        self.inner = ()

    def __and__(self, other):
        return _both(self, other)

    def __or__(self, other):
        return _either(self, other)

    def __neg__(self):
        return Opposite(self)


class Both(Guard):
    """Two guards hold."""

    WORD = "both"

    def __init__(self, one, other):
        self.word = None
        self.inner = (one, other)


class Either(Guard):
    """One of two guards holds."""

    WORD = "either"

    def __init__(self, one, other):
        self.word = None
        self.inner = (one, other)


class Opposite(Guard):
    """A guard does not hold."""

    WORD = "opposite"

    def __init__(self, guard):
        self.word = None
        self.inner = (guard,)


class FlowRules:
    """A set of rules of which some find a node only if a guard holds there."""

    def __init__(self, rules, flow, guards):
        if rules.schema != flow.schema:
            raise OtherSchema()
        for name, guard in guards.items():
            # The pattern of a name that is not one of a rule raises UnknownName.
            _check_guard(rules.pattern(name), name, guard)
        self.rules = rules
        self.flow = flow
        self._guards = {name: guards[name] for name in guards}

    def run(self, tree):
        """Yield the findings for which the guards of their rules hold, ascending as those of the rules."""
        watch = Watch(self.flow.chart_of(tree))
        for finding in self.rules.run(tree):
            guard = self._guards.get(finding.rule)
            if guard is None or watch.holds(guard, watch.chart.layout.numbers[finding.path], finding.binding):
                yield finding

    def judge(self, name, tree, path):
        """Return ("found", binding, grounds, grounds of the guard) if a rule finds a node, and ("not", reason)."""
        answer = self.rules.judge(name, tree, path)
        if answer[0] == "not":
            return answer
        _, binding, grounds = answer
        guard = self._guards.get(name)
        if guard is None:
            return "found", binding, grounds, None
        watch = Watch(self.flow.chart_of(tree))
        node = watch.chart.layout.number_at(path)
        if watch.holds(guard, node, binding):
            return "found", binding, grounds, watch.evidence(guard, node, binding, True)
        return "not", ("guard", watch.evidence(guard, node, binding, False))

    def check(self, name, tree, path, answer):
        """Return the first item of an answer that judge could give; raise InvalidAnswer for any other value."""
        things = self.rules.binding_at(name, tree, path)
        if is_told(answer, 4, ("found",)):
            self.rules.check(name, tree, path, answer[:3])
            is_right = self._is_of_guard(name, tree, path, things, True, answer[3])
        elif not is_told(answer, 2, ("not",)):
            raise InvalidAnswer("form")
        elif is_told(answer[1], 2, ("guard",)):
            is_right = things is not None and self._is_of_guard(name, tree, path, things, False, answer[1][1])
        else:
            return self.rules.check(name, tree, path, answer)
        if not is_right:
            raise InvalidAnswer("guard")
        return answer[0]

    def _is_of_guard(self, name, tree, path, things, is_held, value):
        """Tell if a value of any kind gives grounds, or a refutation, of the guard at a node that the rule finds."""
        guard = self._guards.get(name)
        if guard is None:
            return is_held and value is None
        watch = Watch(self.flow.chart_of(tree))
        return watch.is_evidence(guard, watch.chart.layout.number_at(path), things, is_held, value)


def _both(one, other):
    """Return the guard that two guards hold."""
    if not isinstance(other, Guard):
        raise TypeError("a guard can be joined with a guard only")
    return Both(one, other)


def _either(one, other):
    """Return the guard that one of two guards holds."""
    if not isinstance(other, Guard):
        raise TypeError("a guard can be joined with a guard only")
    return Either(one, other)


def _check_guard(pattern, name, guard):
    """Raise InvalidGuard if a value is not a guard, or for its first word that is no Word of a pattern."""
    if not isinstance(guard, Guard):
        raise InvalidGuard(name, None)
    seen = {}
    waiting = [guard]
    while waiting:
        part = waiting.pop()
        if part not in seen:
            seen[part] = True
            if isinstance(part, (Unset, Later)) and pattern.takes(part.word) != TEXT:
                raise InvalidGuard(name, part.word)
            waiting.extend(part.inner[::-1])
