"""What two patterns have in common: their greatest common instance, and the least common generalization."""

from ruleengine.cells import VARIABLES, built, cells_of, general_cells, measures, names_below, order_below
from ruleengine.trees import Like


def meeting(one, other):
    """Return the reason why two roots of one sort have no common instance, or None, and the table of this instance.

    The table is a triple of the cells, a list that tells for each cell which one stands for it, and the numbers of
    the cells in use, each behind those below it. Variables of the two are different ones, also with the same name.
    """
    cells = cells_of(one, 0)
    second = len(cells)
    cells = cells + cells_of(other, second)
    tops = merged(cells, 0, second)
    if tops is None:
        return "clash", None
    order = order_below(cells, tops, tops[0])
    if order is None:
        return "ring", None
    return None, (cells, tops, order)


def common_root(table):
    """Return the root of the common instance with this table; None if it is larger than a pattern may be."""
    cells, tops, order = table
    # A common instance can be so large that it can be measured only, not built.
    if not is_small(cells, tops, order):
        return None
    return built(cells, tops, order, names_below(cells, tops, order[-1]), True)


def general_root(roots):
    """Return the root of the least common generalization of roots; a Sketch if it is larger than a pattern may be."""
    cells = general_cells(roots)
    tops = list(range(len(cells)))
    order = order_below(cells, tops, 0)
    return built(cells, tops, order, names_below(cells, tops, 0), is_small(cells, tops, order))


def is_small(cells, tops, order):
    """Tell if the root with these cells is no larger than a pattern may be."""
    size, levels = measures(cells, tops, order)
    return size <= Like.MAX_SIZE and levels <= Like.MAX_LEVELS


def merged(cells, one, other):
    """Return a list that tells for each cell which one stands for it if two cells are the same; None for a clash.

    A variable stands for a cell only if nothing but variables is the same as it.
    """
    tops = list(range(len(cells)))
    pairs = [(one, other)]
    while pairs:
        left, right = pairs.pop()
        left = _top(tops, left)
        right = _top(tops, right)
        if left == right:
            continue
        if cells[left][0] not in VARIABLES:
            if cells[right][0] in VARIABLES:
                left, right = right, left
            elif cells[left][:2] != cells[right][:2]:
                return None
            else:
                pairs.extend(list(zip(cells[left][2], cells[right][2])))
        tops[left] = right
    return [_top(tops, number) for number in tops]


def _top(tops, number):
    """Return the number of the cell that stands for a cell."""
    top = number
    while tops[top] != top:
        top = tops[top]
    return top
