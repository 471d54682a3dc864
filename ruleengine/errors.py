"""The exceptions of the package.

Their messages are fixed texts: a field may be a value of any kind, and writing it out might never end.
"""


class RuleengineError(ValueError):
    """The base class of all exceptions of the package; it is never raised itself."""


class InvalidForm(RuleengineError):
    """A form is not right; `part` is "name", "sort", the name of a slot, or "size"."""

    def __init__(self, part):
        super().__init__("invalid form")
        self.part = part


class InvalidSchema(RuleengineError):
    """A schema is not right; `fault` is "form", "name", "size" or "sort"."""

    def __init__(self, fault, item=None):
        super().__init__("invalid schema")
        self.fault = fault
        self.item = item


class InvalidTree(RuleengineError):
    """A tree is not right; `part` is "form", the position of a part, or "size"."""

    def __init__(self, part):
        super().__init__("invalid tree")
        self.part = part


class InvalidPath(RuleengineError):
    """A value is not the path of a node."""

    def __init__(self, value):
        super().__init__("invalid path")
        self.value = value


class InvalidPart(RuleengineError):
    """A piece of a pattern or of a condition is not right."""

    def __init__(self, part):
        super().__init__("invalid part")
        self.part = part


class InvalidPattern(RuleengineError):
    """A pattern is not one of its schema."""

    def __init__(self, fault, item=None):
        super().__init__("invalid pattern")
        self.fault = fault
        self.item = item


class InvalidRule(RuleengineError):
    """The rule at the position `spot` is not right."""

    def __init__(self, spot, fault, item=None):
        super().__init__("invalid rule")
        self.spot = spot
        self.fault = fault
        self.item = item


class WrongTree(RuleengineError):
    """A tree is not one of the schema; `place` is the path of the first wrong node."""

    def __init__(self, place):
        super().__init__("wrong tree")
        self.place = place


class OtherSchema(RuleengineError):
    """Two things have different schemas or sorts."""

    def __init__(self):
        super().__init__("other schema")


class NoCommon(RuleengineError):
    """Two patterns have no common instance; `reason` is "clash" or "ring"."""

    def __init__(self, reason):
        super().__init__("no common instance")
        self.reason = reason


class TooLarge(RuleengineError):
    """A pattern would be larger than the limit."""

    def __init__(self, limit):
        super().__init__("too large")
        self.limit = limit


class UnknownName(RuleengineError):
    """A value is not one of the known names."""

    def __init__(self, word):
        super().__init__("unknown name")
        self.word = word


class InvalidAnswer(RuleengineError):
    """An answer is not a correct one."""

    def __init__(self, part):
        super().__init__("invalid answer")
        self.part = part


class InvalidPlan(RuleengineError):
    """A plan is not right; `part` is "order", "sets", "uses" or "deed"."""

    def __init__(self, part):
        super().__init__("invalid plan")
        self.part = part


class InvalidFlow(RuleengineError):
    """The plan for the form called `word` is not right."""

    def __init__(self, fault, word):
        super().__init__("invalid flow")
        self.fault = fault
        self.word = word


class InvalidPoint(RuleengineError):
    """A value is not a point of the tree."""

    def __init__(self, value):
        super().__init__("invalid point")
        self.value = value


class NoDeed(RuleengineError):
    """The node at the path `place` does not set or use the variable."""

    def __init__(self, place):
        super().__init__("no deed")
        self.place = place


class InvalidGuard(RuleengineError):
    """The guard for the rule called `word` is not right."""

    def __init__(self, word, item):
        super().__init__("invalid guard")
        self.word = word
        self.item = item


class InvalidTemplate(RuleengineError):
    """The template for the rule called `word` is not right."""

    def __init__(self, word, fault, item=None):
        super().__init__("invalid template")
        self.word = word
        self.fault = fault
        self.item = item


class WrongFinding(RuleengineError):
    """The value at the position `spot` is not a finding in the tree."""

    def __init__(self, spot):
        super().__init__("wrong finding")
        self.spot = spot


class Overlap(RuleengineError):
    """The findings at two positions overlap."""

    def __init__(self, one, other):
        super().__init__("overlap")
        self.one = one
        self.other = other


class InvalidOrder(RuleengineError):
    """A value is not one of the known orders."""

    def __init__(self, value):
        super().__init__("invalid order")
        self.value = value


class TooLong(RuleengineError):
    """More steps than the limit would be made."""

    def __init__(self, limit):
        super().__init__("too long")
        self.limit = limit


class NotPlain(RuleengineError):
    """The rule called `word` keeps a set of rules from being plain."""

    def __init__(self, word):
        super().__init__("not plain")
        self.word = word


class LimitExceeded(RuleengineError):
    """There are as many edits as the limit already."""

    def __init__(self, limit):
        super().__init__("limit exceeded")
        self.limit = limit


class NothingToUndo(RuleengineError):
    """There is no edit that could be undone."""

    def __init__(self):
        super().__init__("nothing to undo")
