"""Trees, and the nodes and variables of which patterns are made."""

from ruleengine.errors import InvalidPart, InvalidPath, InvalidTree
from ruleengine.kinds import is_name, is_number

MAX_TEXT = 60


class Tree:
    """A node of a tree with all that is below it: the name of a form, and a part for each slot."""

    MAX_NODES = 400
    MAX_LEVELS = 100

    def __init__(self, form, *parts):
        if not is_name(form):
            raise InvalidTree("form")
        for spot, part in enumerate(parts):
            if not _is_tree_part(part):
                raise InvalidTree(spot)
        children = nodes_among(parts)
        size, levels = _measures_above(children)
        if size > Tree.MAX_NODES or levels > Tree.MAX_LEVELS:
            raise InvalidTree("size")
        self.form = form
        self.parts = parts
        self.children = children
        self.size = size
        self.levels = levels
        self.text = _node_text(form, parts)

    def __len__(self):
        return len(range(self.size))

    def __eq__(self, other):
        # Different trees have different texts, so the texts tell.
        return isinstance(other, Tree) and self.text == other.text

    def __contains__(self, x):
        return _node_at(self, x) is not None

    def __getitem__(self, at):
        node = _node_at(self, at)
        if node is None:
            raise InvalidPath(at)
        return node

    def __iter__(self):
        raise TypeError("a tree is not iterated over")

    def each_path(self):
        """Yield the paths of all nodes, ascending."""
        waiting = [((), self)]
        while waiting:
            path, node = waiting.pop()
            yield path
            below = [(path + (number,), child) for number, child in enumerate(node.children)]
            waiting.extend(below[::-1])

    def put(self, path, other):
        """Return the tree with another tree in place of the node at a path."""
        if path not in self:
            raise InvalidPath(path)
        uppers = []
        node = self
        for number in path:
            uppers.append(node)
            node = node.children[number]
        node = other
        for upper, number in reversed(list(zip(uppers, path))):
            children = [node if at == number else child for at, child in enumerate(upper.children)]
            parts = parts_with(upper.parts, children)
            node = Tree(upper.form, *parts)
        return node


class Var:
    """A variable that stands for a node."""

    def __init__(self, name):
        if not is_name(name):
            raise InvalidPart("name")
        self.name = name
        self.text = name
        self.size = 1
        self.levels = 1

    def __eq__(self, other):
        return isinstance(other, Var) and self.name == other.name


class Word:
    """A variable that stands for a text."""

    def __init__(self, name):
        if not is_name(name):
            raise InvalidPart("name")
        self.name = name
        self.text = "$" + name

    def __eq__(self, other):
        return isinstance(other, Word) and self.name == other.name


class Rest:
    """A variable that stands for the rest of a row, behind its items."""

    def __init__(self, name):
        if not is_name(name):
            raise InvalidPart("name")
        self.name = name
        self.text = "*" + name

    def __eq__(self, other):
        return isinstance(other, Rest) and self.name == other.name


class Like:
    """A node of a pattern: like a tree, but with variables."""

    MAX_SIZE = 60
    MAX_LEVELS = 8

    def __init__(self, form, *parts):
        if not is_name(form):
            raise InvalidPart("form")
        for spot, part in enumerate(parts):
            if not _is_like_part(part):
                raise InvalidPart(spot)
        size, levels = _measures_above(nodes_among(parts))
        if size > Like.MAX_SIZE or levels > Like.MAX_LEVELS:
            raise InvalidPart("size")
        self.form = form
        self.parts = parts
        self.size = size
        self.levels = levels
        self.text = _node_text(form, parts)

    def __eq__(self, other):
        return isinstance(other, Like) and self.text == other.text


def _is_tree_part(part):
    """Tell if a value can be a part of a tree."""
    if isinstance(part, str):
        return len(part) <= MAX_TEXT
    if isinstance(part, tuple):
        return all([isinstance(item, Tree) for item in part])
    return isinstance(part, Tree)


def _is_like_part(part):
    """Tell if a value can be a part of a node of a pattern."""
    if isinstance(part, str):
        return len(part) <= MAX_TEXT
    if isinstance(part, tuple):
        return _is_like_row(part)
    return isinstance(part, Word) or is_node(part)


def _is_like_row(row):
    """Tell if a tuple holds nodes alone, or nodes and a Rest behind them."""
    return all([is_node(item) for item in row_items(row)])


def is_node(value):
    """Tell if a value can stand for a node of a pattern."""
    return isinstance(value, (Like, Tree, Var))


def is_variable(value):
    """Tell if a value is a variable of a pattern."""
    return isinstance(value, (Var, Word, Rest))


def row_items(row):
    """Return the items of a row without the Rest behind them."""
    if len(row) > 0 and isinstance(row[-1], Rest):
        return row[:-1]
    return row


def nodes_among(parts):
    """Return the nodes and Vars among parts, in the order of slots and rows."""
    nodes = []
    for part in parts:
        row = part if isinstance(part, tuple) else (part,)
        nodes.extend([item for item in row if is_node(item)])
    return tuple(nodes)


def _measures_above(nodes):
    """Return the size and the levels of a node that has these nodes below it."""
    size = 1
    deepest = 0
    for node in nodes:
        size += node.size
        if node.levels > deepest:
            deepest = node.levels
    return size, deepest + 1


def _node_at(tree, path):
    """Return the node to which a path leads; None for a value that is no path of a node."""
    if not isinstance(path, tuple):
        return None
    node = tree
    for number in path:
        if not is_number(number) or not 0 <= number < len(node.children):
            return None
        node = node.children[number]
    return node


def parts_with(parts, nodes):
    """Return a list of the parts, with other nodes in place of those among them, in the order of slots and rows."""
    changed = []
    passed = 0
    for part in parts:
        if isinstance(part, tuple):
            many = len(row_items(part))
            changed.append(tuple(nodes[passed:passed + many]) + part[many:])
            passed = passed + many
        elif is_node(part):
            changed.append(nodes[passed])
            passed += 1
        else:
            changed.append(part)
    return changed


def _node_text(form, parts):
    """Return the text of a node; those of the nodes below it are known already."""
    inner = ", ".join([part_text(part) for part in parts])
    return f"{form}({inner})"


def part_text(part):
    """Return the text of a part of a node."""
    if isinstance(part, str):
        return _quoted(part)
    if isinstance(part, tuple):
        inner = ", ".join([item.text for item in part])
        return f"[{inner}]"
    return part.text


def _quoted(text):
    """Return a text as it is written in the text of a node."""
    # The backslash comes first, or those of the other two would be doubled.
    marked = text.replace("\\", "\\\\").replace('"', '\\"').replace("\n", "\\n")
    return f'"{marked}"'
