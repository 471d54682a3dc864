"""The roots of patterns: what is wrong with them, what their variables stand for, and what replaces these."""

from ruleengine.kinds import ROW_SIGN, TEXT, is_word, sort_taken
from ruleengine.trees import Like, Rest, Tree, Var, Word, is_node, is_variable, row_items


def root_fault(schema, root, sort):
    """Return the first fault of a root as a whole, and its item; the fault is None if there is none."""
    if not is_node(root):
        return "root", None
    if isinstance(root, Var):
        if not is_word(sort, schema.sorts):
            return "sort", sort
    elif root.form not in schema:
        return "form", root.form
    elif sort is not None and not is_word(sort, (schema[root.form].kin,)):
        return "sort", sort
    if root.size > Like.MAX_SIZE or root.levels > Like.MAX_LEVELS:
        return "size", None
    return None, None


def root_kin(schema, root, sort):
    """Return the sort of the nodes for which a root stands that is right as a whole."""
    if isinstance(root, Var):
        return sort
    return schema[root.form].kin


def survey(schema, root, kin):
    """Return the first fault, node by node, its item, and the dict of what the variables that were met stand for."""
    taken = {}
    waiting = [(kin, root)]
    while waiting:
        takes, part = waiting.pop()
        if is_variable(part):
            if taken.get(part.name, takes) != takes:
                return "name", part.name, taken
            taken[part.name] = takes
        elif is_node(part):
            fault = _node_fault(schema, takes, part)
            if fault is not None:
                return fault, part.form, taken
        waiting.extend(_taken_below(schema, takes, part)[::-1])
    return None, None, taken


def replaced(part, values):
    """Return a part of a pattern with other things in place of its variables; those of rests are rows."""
    if isinstance(part, (Var, Word)):
        return values[part.name]
    if isinstance(part, tuple):
        items = row_items(part)
        row = tuple([replaced(item, values) for item in items])
        return row + values[part[-1].name] if len(part) > len(items) else row
    if isinstance(part, Like):
        return _node(part.form, [replaced(inner, values) for inner in part.parts])
    return part


def nodes_in(root):
    """Return all nodes of a root with forms, and a dict of how often each variable occurs in it."""
    nodes = []
    times = {}
    waiting = [root]
    while waiting:
        part = waiting.pop()
        if isinstance(part, (Like, Tree)):
            nodes.append(part)
            waiting.extend(list(part.parts))
        elif isinstance(part, tuple):
            waiting.extend(list(part))
        elif is_variable(part):
            times[part.name] = times.get(part.name, 0) + 1
    return nodes, times


def shape_text(root, taken):
    """Return the text of a root whose variables are called x1, x2, .. in the order in which they occur."""
    values = {}
    for number, (name, takes) in enumerate(taken.items(), start=1):
        values[name] = _variable(f"x{number}", takes)
    return replaced(root, values).text


def _node_fault(schema, sort, node):
    """Return the fault of a node of a pattern where a node of a sort is taken; None if there is none."""
    if node.form not in schema:
        return "form"
    form = schema[node.form]
    if form.kin != sort:
        return "sort"
    if len(node.parts) != len(form.slots):
        return "parts"
    if not all([_suits(takes, part) for (_, takes), part in zip(form.slots, node.parts)]):
        return "parts"
    return None


def _suits(takes, part):
    """Tell if a part of a node of a pattern is a text, a node or a row, as its slot takes it."""
    if takes == TEXT:
        return isinstance(part, (str, Word))
    if takes.endswith(ROW_SIGN):
        return isinstance(part, tuple)
    return is_node(part)


def _taken_below(schema, takes, part):
    """Return the parts of a part of a pattern in their order, each behind what it is taken as."""
    if isinstance(part, tuple):
        items = row_items(part)
        below = [(sort_taken(takes), item) for item in items]
        return below + [(takes, rest) for rest in part[len(items):]]
    if isinstance(part, (Like, Tree)):
        return [(takes, inner) for (_, takes), inner in zip(schema[part.form].slots, part.parts)]
    return []


def _node(form, parts):
    """Return the tree with these parts, or the node of a pattern if they are not those of a tree."""
    nodes = []
    for part in parts:
        nodes.extend(part if isinstance(part, tuple) else (part,))
    if all([isinstance(node, (str, Tree)) for node in nodes]):
        return Tree(form, *parts)
    return Like(form, *parts)


def _variable(name, takes):
    """Return a variable with a name that stands for what is taken; a Rest stands in a row."""
    if takes == TEXT:
        return Word(name)
    if takes.endswith(ROW_SIGN):
        return (Rest(name),)
    return Var(name)
