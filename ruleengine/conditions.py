"""Conditions under which a rule finds a node that fits its pattern.

Each class has the operators in its own body, because the interface is to stand there and not only in a base class.
"""

from ruleengine.errors import InvalidPart
from ruleengine.trees import is_node


class Condition:
    """The base class of all conditions; it is never created itself."""

    MAX_NESTING = 2

    def __and__(self, other):
        return _both(self, other)

    def __or__(self, other):
        return _either(self, other)

    def __neg__(self):
        return Not(self)


class Has(Condition):
    """Some node below fits a root, and the inner condition holds there."""

    WORD = "has"

    def __init__(self, root, where=None, *, sort=None):
        _check_root(root, where)
        self.root = root
        self.kin = sort
        self.inner = () if where is None else (where,)
        self.nesting = 1 + _deepest(self.inner)

    def __and__(self, other):
        return _both(self, other)

    def __or__(self, other):
        return _either(self, other)

    def __neg__(self):
        return Not(self)


class Inside(Condition):
    """Some node above fits a root, and the inner condition holds there."""

    WORD = "inside"

    def __init__(self, root, where=None, *, sort=None):
        _check_root(root, where)
        self.root = root
        self.kin = sort
        self.inner = () if where is None else (where,)
        self.nesting = 1 + _deepest(self.inner)

    def __and__(self, other):
        return _both(self, other)

    def __or__(self, other):
        return _either(self, other)

    def __neg__(self):
        return Not(self)


class All(Condition):
    """All of some conditions hold."""

    WORD = "all"

    def __init__(self, *conditions):
        _check_conditions(conditions)
        self.inner = conditions
        self.nesting = _deepest(conditions)

    def __and__(self, other):
        return _both(self, other)

    def __or__(self, other):
        return _either(self, other)

    def __neg__(self):
        return Not(self)


class Some(Condition):
    """One of some conditions holds."""

    WORD = "some"

    def __init__(self, *conditions):
        _check_conditions(conditions)
        self.inner = conditions
        self.nesting = _deepest(conditions)

    def __and__(self, other):
        return _both(self, other)

    def __or__(self, other):
        return _either(self, other)

    def __neg__(self):
        return Not(self)


class Not(Condition):
    """A condition does not hold."""

    WORD = "not"

    def __init__(self, condition):
        _check_conditions((condition,))
        self.inner = (condition,)
        self.nesting = condition.nesting

    def __and__(self, other):
        return _both(self, other)

    def __or__(self, other):
        return _either(self, other)

    def __neg__(self):
        return Not(self)


def _both(one, other):
    """Return the condition that two conditions hold."""
    if not isinstance(other, Condition):
        raise TypeError("a condition can be joined with a condition only")
    return All(one, other)


def _either(one, other):
    """Return the condition that one of two conditions holds."""
    if not isinstance(other, Condition):
        raise TypeError("a condition can be joined with a condition only")
    return Some(one, other)


def _check_root(root, where):
    """Raise InvalidPart if a value is no root of a pattern, or another one is no inner condition."""
    if not is_node(root):
        raise InvalidPart("root")
    if where is not None:
        if not isinstance(where, Condition):
            raise InvalidPart("where")
        if where.nesting >= Condition.MAX_NESTING:
            raise InvalidPart("depth")


def _check_conditions(conditions):
    """Raise InvalidPart with the position of the first value that is not a condition."""
    for spot, condition in enumerate(conditions):
        if not isinstance(condition, Condition):
            raise InvalidPart(spot)


def _deepest(conditions):
    """Return the greatest nesting of some conditions, 0 without any."""
    deepest = 0
    for condition in conditions:
        if condition.nesting > deepest:
            deepest = condition.nesting
    return deepest
