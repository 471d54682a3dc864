"""What two patterns have in common: their greatest common instance, and the least common generalization."""

from ruleengine.cells import VARIABLES, built, cells_of, general_cells, measures, order_below
from ruleengine.trees import Like


def meeting(one, other):
    """Return the reason why two roots of one sort have no common instance, or None, and the table of this instance.

    The table is a triple of the cells, a list that tells for each cell which one stands for it, and the numbers of
    the cells in use, each behind those below it. Variables of the two are different ones, also with the same name.
    """
    cells = cells_of(one, 0)
    second = len(cells)
    cells = cells + cells_of(other, second)
    tops = _merged(cells, second)
    if tops is None:
        return "clash", None
    order = order_below(cells, tops, tops[0])
    if order is None:
        return "ring", None
    return None, (cells, tops, order)


def common_root(table):
    """Return the root of the common instance with this table; None if it is larger than a pattern may be."""
    cells, tops, order = table
    # A common instance can be so large that it can be measured only, not built.
    if not _is_small(cells, tops, order):
        return None
    return built(cells, tops, order, True)


def general_root(roots):
    """Return the root of the least common generalization of roots; a Sketch if it is larger than a pattern may be."""
    cells = general_cells(roots)
    tops = list(range(len(cells)))
    order = order_below(cells, tops, 0)
    return built(cells, tops, order, _is_small(cells, tops, order))


def _is_small(cells, tops, order):
    """Tell if the root with these cells is no larger than a pattern may be."""
    size, levels = measures(cells, tops, order)
    return size <= Like.MAX_SIZE and levels <= Like.MAX_LEVELS


def _merged(cells, second):
    """Return for each cell the one that stands for it if the first and a second one are the same; None for a clash.

    A variable stands for a cell only if nothing but variables is the same as it.
    """
    tops = list(range(len(cells)))
    pairs = [(0, second)]
    while pairs:
        one, other = pairs.pop()
        one, other = tops[one], tops[other]
        if one == other:
            continue
        if cells[one][0] not in VARIABLES:
            if cells[other][0] in VARIABLES:
                one, other = other, one
            elif cells[one][:2] != cells[other][:2]:
                return None
            else:
                pairs.extend(list(zip(cells[one][2], cells[other][2])))
        tops = [other if top == one else top for top in tops]
    return tops
