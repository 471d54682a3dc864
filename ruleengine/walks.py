"""Walks of a pattern and a tree, or of a pattern and another one, and trees that are not of a schema."""

from ruleengine.kinds import ROW_SIGN, TEXT, sort_taken
from ruleengine.trees import Tree, Var, is_variable, part_text, row_items

# The first mismatch if the node itself is of another form or sort: no binding makes it fit.
WRONG_FORM = ((), None, "form")


def wrong_path(schema, tree):
    """Return the first path, ascending, of a node that is not one of a schema; None if there is none."""
    waiting = [((), tree)]
    while waiting:
        path, node = waiting.pop()
        if not _is_right(schema, node):
            return path
        below = [(path + (number,), child) for number, child in enumerate(node.children)]
        waiting.extend(below[::-1])
    return None


def walk_tree(schema, root, kin, tree, bound):
    """Walk through a root that stands for nodes of a sort, and a tree of any sort."""
    if schema[tree.form].kin != kin:
        return None, WRONG_FORM
    return walk(schema, root, tree, bound)


def walk(schema, root, node, bound):
    """Return the binding that makes a root a node and contains another binding, and None.

    Without such a binding, return None and the first mismatch. The node may also be one of a pattern, whose variables
    stand for nothing but themselves then.
    """
    found = dict(bound)
    # Each step has the path and the slot that a mismatch there has, and the number of the first child in the part.
    steps = [((), None, 0, root, node)]
    while steps:
        path, slot, start, wanted, met = steps.pop()
        if is_variable(wanted):
            if wanted.name not in found:
                found[wanted.name] = met
            elif part_text(found[wanted.name]) != part_text(met):
                return None, (path, slot, "equal")
        else:
            word = _difference(wanted, met)
            if word is not None:
                return None, (path, slot, word)
            steps.extend(_steps_below(schema, path, slot, start, wanted, met)[::-1])
    return found, None


def _is_right(schema, node):
    """Tell if a node of a tree has a form of a schema, the parts for its slots, and children of their sorts."""
    if node.form not in schema:
        return False
    slots = schema[node.form].slots
    if len(node.parts) != len(slots):
        return False
    return all([_is_for(schema, takes, part) for (_, takes), part in zip(slots, node.parts)])


def _is_for(schema, takes, part):
    """Tell if a part of a tree is what a slot takes."""
    if takes == TEXT:
        return isinstance(part, str)
    if takes.endswith(ROW_SIGN):
        return isinstance(part, tuple) and all([_is_of(schema, sort_taken(takes), item) for item in part])
    return isinstance(part, Tree) and _is_of(schema, takes, part)


def _is_of(schema, sort, node):
    """Tell if a node of a tree is one of a sort; one whose form the schema does not have is none."""
    return node.form in schema and schema[node.form].kin == sort


def _difference(wanted, met):
    """Return the word for what tells a part of a node from the one that is wanted there, looking no deeper."""
    if isinstance(wanted, str):
        return None if wanted == met else "text"
    if isinstance(wanted, tuple):
        items = row_items(wanted)
        has_more = len(met) > len(items) and len(items) == len(wanted)
        return "length" if has_more or len(row_items(met)) < len(items) else None
    return "form" if isinstance(met, Var) or met.form != wanted.form else None


def _steps_below(schema, path, slot, start, wanted, met):
    """Return the steps from a part without a difference to the parts below it, in their order."""
    if isinstance(wanted, str):
        return []
    if isinstance(wanted, tuple):
        items = row_items(wanted)
        steps = [(path + (start + at,), None, 0, item, met[at]) for at, item in enumerate(items)]
        return steps + [(path, slot, 0, rest, met[len(items):]) for rest in wanted[len(items):]]
    return _steps_to_parts(schema[wanted.form].slots, path, wanted, met)


def _steps_to_parts(slots, path, wanted, met):
    """Return the steps from a node to its parts, in the order of the slots."""
    steps = []
    start = 0
    for (slot, takes), part, other in zip(slots, wanted.parts, met.parts):
        if takes == TEXT:
            steps.append((path, slot, 0, part, other))
        elif takes.endswith(ROW_SIGN):
            steps.append((path, slot, start, part, other))
            start = start + len(other)
        else:
            steps.append((path + (start,), None, 0, part, other))
            start += 1
    return steps
