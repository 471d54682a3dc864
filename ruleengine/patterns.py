"""Patterns, their order, and what they have in common."""

from ruleengine.cells import Sketch
from ruleengine.commons import common_root, general_root, meeting
from ruleengine.errors import InvalidAnswer, InvalidPattern, NoCommon, OtherSchema, TooLarge, WrongTree
from ruleengine.kinds import is_told
from ruleengine.shapes import root_fault, root_kin, shape_text, survey
from ruleengine.trees import Like, Rest, Tree, Word, is_node
from ruleengine.walks import walk, walk_tree, wrong_path
from ruleengine.witnesses import each_witness


class Pattern:
    """A pattern of a schema; its root stands for nodes of one sort."""

    def __init__(self, schema, root, sort=None):
        fault, item = root_fault(schema, root, sort)
        if fault is not None:
            raise InvalidPattern(fault, item)
        kin = root_kin(schema, root, sort)
        fault, item, taken = survey(schema, root, kin)
        if fault is not None:
            raise InvalidPattern(fault, item)
        self.schema = schema
        self.root = root
        self.kin = kin
        self.variables = tuple(taken.keys())
        self.text = root.text
        self._taken = taken
        self._shape = shape_text(root, taken)

    def takes(self, name):
        """Return what a variable stands for: a sort, a sort with * for a Rest, or "text"; None for other values."""
        return self._taken.get(name) if isinstance(name, str) else None

    def all_taken(self):
        """Return a dict of what the variables stand for."""
        return dict(self._taken)

    def __call__(self, tree):
        """Return the binding with which a tree fits, or None."""
        check_tree(self.schema, tree)
        binding, _ = walk_tree(self.schema, self.root, self.kin, tree, {})
        return binding

    def __contains__(self, x):
        if not isinstance(x, Tree) or wrong_path(self.schema, x) is not None:
            return False
        return walk_tree(self.schema, self.root, self.kin, x, {})[0] is not None

    def __eq__(self, other):
        if not isinstance(other, Pattern):
            return False
        return self.schema == other.schema and self.kin == other.kin and self._shape == other._shape

    def __le__(self, other):
        if not isinstance(other, Pattern):
            return NotImplemented
        _check_kin(self, other)
        return _replacement(self, other) is not None

    def __lt__(self, other):
        if not isinstance(other, Pattern):
            return NotImplemented
        _check_kin(self, other)
        return _replacement(self, other) is not None and self._shape != other._shape

    def __and__(self, other):
        if not isinstance(other, Pattern):
            return NotImplemented
        _check_kin(self, other)
        reason, table = meeting(self.root, other.root)
        if reason is not None:
            raise NoCommon(reason)
        root = common_root(table)
        if root is None:
            raise TooLarge(Like.MAX_SIZE)
        return Pattern(self.schema, root, self.kin)

    def __or__(self, other):
        if not isinstance(other, Pattern):
            return NotImplemented
        _check_kin(self, other)
        return Pattern(self.schema, general_root([self.root, other.root]), self.kin)


def mismatch(pattern, tree):
    """Return the first mismatch of a pattern and a tree, or None if the tree fits."""
    check_tree(pattern.schema, tree)
    _, first = walk_tree(pattern.schema, pattern.root, pattern.kin, tree, {})
    return first


def check_tree(schema, tree):
    """Raise WrongTree with the path of the first node that is not one of a schema."""
    path = wrong_path(schema, tree)
    if path is not None:
        raise WrongTree(path)


def do_meet(one, other):
    """Tell if some tree fits both patterns."""
    _check_kin(one, other)
    reason, _ = meeting(one.root, other.root)
    return reason is None


def covers(one, other):
    """Return ("instance", replacement) if a pattern is an instance of another one.

    Otherwise return ("tree", tree) with a tree that fits the first pattern and not the other one.
    """
    _check_kin(one, other)
    replacement = _replacement(one, other)
    if replacement is not None:
        return "instance", replacement
    taken = one.all_taken()
    tree = None
    for tree in each_witness(one.schema, one.root, other.root, taken):
        if walk(one.schema, other.root, tree, {})[0] is None:
            break
    return "tree", tree


def check_cover(one, other, answer):
    """Return the first item of an answer that covers could give; raise InvalidAnswer for any other value."""
    _check_kin(one, other)
    if not is_told(answer, 2, ("instance", "tree")):
        raise InvalidAnswer("form")
    if answer[0] == "instance":
        is_right = _is_replacement(answer[1], _replacement(one, other))
    else:
        is_right = answer[1] in one and answer[1] not in other
    if not is_right:
        raise InvalidAnswer(answer[0])
    return answer[0]


def learned(schema, good, bad):
    """Return ("pattern", L) with the least pattern that some trees fit, if none of the bad trees fits it.

    Otherwise return ("tree", number) with the number of the first bad tree that fits it.
    """
    trees = [*good, *bad]
    for tree in trees:
        check_tree(schema, tree)
    kin = schema[trees[0].form].kin
    if any([schema[tree.form].kin != kin for tree in trees]):
        raise OtherSchema()
    root = general_root(list(good))
    for number, tree in enumerate(bad):
        if walk(schema, root, tree, {})[0] is not None:
            return "tree", number
    if isinstance(root, Sketch):
        raise TooLarge(Like.MAX_SIZE)
    return "pattern", Pattern(schema, root, kin)


def _check_kin(one, other):
    """Raise OtherSchema if two patterns have different schemas or sorts."""
    if one.schema != other.schema or one.kin != other.kin:
        raise OtherSchema()


def _replacement(one, other):
    """Return the replacement that makes the other pattern the first one; None if this is no instance of it."""
    return walk(one.schema, other.root, one.root, {})[0]


def _is_replacement(value, wanted):
    """Tell if a value of any kind is a replacement; the wanted one is None if there is none."""
    if wanted is None or not isinstance(value, dict) or len(value) != len(wanted):
        return False
    return all([name in value and _is_part(value[name], part) for name, part in wanted.items()])


def _is_part(value, wanted):
    """Tell if a value of any kind is the same as a part of a pattern."""
    if isinstance(wanted, str):
        return isinstance(value, str) and value == wanted
    if isinstance(wanted, (Word, Rest)):
        return isinstance(value, (Word, Rest)) and value == wanted
    if not isinstance(wanted, tuple):
        return is_node(value) and value.text == wanted.text
    if not isinstance(value, tuple) or len(value) != len(wanted):
        return False
    return all([_is_part(item, part) for item, part in zip(value, wanted)])
