"""Rules that meet in one pattern: an upper one at its root, and a lower one at a node below.

A rule is a pair of the roots of its pattern and its template here.
"""

from ruleengine.cells import Sketch, built, cells_of, names_below, order_below
from ruleengine.commons import is_small, merged
from ruleengine.errors import InvalidPart, TooLarge
from ruleengine.trees import Like, nodes_among, parts_with


def meeting_roots(upper, lower, meets_at_root):
    """Return for each node at which two rules meet its path, the root of the crossed pattern, and those of the results.

    The variables of the two are different ones, also with the same name. Nodes without a form do not count, and the
    root of the upper rule counts only if it is to.
    """
    cells = cells_of(Sketch("pair", *upper), 0)
    second = len(cells)
    cells = cells + cells_of(Sketch("pair", *lower), second)
    top = cells[0][2][0]
    below = cells[second][2][0]
    found = []
    for path, number in _node_cells(cells, top):
        if cells[number][:2] == cells[below][:2] and (meets_at_root or len(path) > 0):
            tops = merged(cells, number, below)
            order = None if tops is None else order_below(cells, tops, tops[top])
            if order is not None:
                roots = _met_roots(cells, tops, order, (cells[0][2][1], cells[second][2][1]), path)
                found.append((path, *roots))
    return found


def _met_roots(cells, tops, order, templates, path):
    """Return the roots of a crossed pattern, whose cells are in an order, and of the results at a path.

    The templates are given by the numbers of their cells.
    """
    # The rules shrink, so that the results have no more nodes than the crossed pattern; their levels may be more.
    if not is_small(cells, tops, order):
        raise TooLarge(Like.MAX_SIZE)
    names = names_below(cells, tops, order[-1])
    crossed = built(cells, tops, order, names, True)
    try:
        first, part = [built(cells, tops, order_below(cells, tops, tops[one]), names, True) for one in templates]
        return crossed, first, _with_part(crossed, path, part)
    except InvalidPart:
        raise TooLarge(Like.MAX_SIZE) from None


def _node_cells(cells, top):
    """Return the pairs of the paths of all nodes with forms and the numbers of their cells, ascending by paths."""
    found = []
    waiting = [((), top)]
    while waiting:
        path, number = waiting.pop()
        if cells[number][0] == "node":
            found.append((path, number))
        below = [(path + (at,), child) for at, child in enumerate(_child_cells(cells, number))]
        waiting.extend(below[::-1])
    return found


def _child_cells(cells, number):
    """Return the numbers of the cells of the nodes and Vars that are children of a node, in their order."""
    children = []
    waiting = list(cells[number][2][::-1])
    while waiting:
        lower = waiting.pop()
        if cells[lower][0] == "item":
            waiting.extend(list(cells[lower][2][::-1]))
        elif cells[lower][0] in ("node", "var"):
            children.append(lower)
    return children


def _with_part(root, path, part):
    """Return a root with a part in place of the node at a path."""
    if len(path) == 0:
        return part
    below = nodes_among(root.parts)
    changed = _with_part(below[path[0]], path[1:], part)
    parts = parts_with(root.parts, [changed if at == path[0] else node for at, node in enumerate(below)])
    return Like(root.form, *parts)
