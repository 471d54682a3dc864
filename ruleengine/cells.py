"""Roots of patterns as tables of cells, in which parts that are the same may be one cell.

A cell is a triple of a word, a text and the numbers of the cells below it. "node" has the name of its form and its
parts below it, "text" is a text, "item" has the first item of a row and the rest of the row below it, and "end" is an
empty row. "var", "word" and "rest" are variables.
"""

from ruleengine.trees import Like, Rest, Var, Word, is_variable, part_text

VARIABLES = ("var", "word", "rest")


class Sketch:
    """A node like that of a pattern, but of any size."""

    def __init__(self, form, *parts):
        self.form = form
        self.parts = parts


def cells_of(root, first):
    """Return the cells of a root, numbered from a first number on; a variable is one cell wherever it stands."""
    parts = [root]
    numbers = {}
    cells = []
    while len(cells) < len(parts):
        part = parts[len(cells)]
        below = []
        for inner in _inside(part):
            number = first + len(parts)
            if is_variable(inner):
                number = numbers.get(inner.name, number)
                numbers[inner.name] = number
            if number == first + len(parts):
                parts.append(inner)
            below.append(number)
        word, text = _head(part)
        cells.append((word, text, tuple(below)))
    return cells


def general_cells(roots):
    """Return the cells of the least common generalization of roots of one sort.

    What stands at one place in the roots gives one cell, and so does the same wherever it stands again: this makes a
    variable stand for the same everywhere.
    """
    groups = [tuple(roots)]
    numbers = {_key(roots): 0}
    cells = []
    while len(cells) < len(groups):
        group = groups[len(cells)]
        word, text = _common_head(group)
        below = []
        if word not in VARIABLES:
            rows = [_inside(part) for part in group]
            for inner in zip(*rows):
                key = _key(inner)
                if key not in numbers:
                    numbers[key] = len(groups)
                    groups.append(inner)
                below.append(numbers[key])
        cells.append((word, text, tuple(below)))
    return cells


def order_below(cells, tops, top):
    """Return the numbers of a cell and the cells below it, each behind those below it; None if there is a ring.

    The list tops tells for each cell which one stands for it.
    """
    is_closed = {}
    order = []
    waiting = [(top, False)]
    while waiting:
        number, is_left = waiting.pop()
        if is_left:
            is_closed[number] = True
            order.append(number)
        elif number not in is_closed:
            is_closed[number] = False
            waiting.append((number, True))
            waiting.extend([(tops[lower], False) for lower in cells[number][2]])
        elif not is_closed[number]:
            return None
    return order


def measures(cells, tops, order):
    """Return how many nodes and Vars, and how many levels of them, the last cell of an order stands for."""
    sizes = {}
    levels = {}
    for number in order:
        word, _, below = cells[number]
        own = 1 if word in ("node", "var") else 0
        size = own
        deepest = 0
        for lower in below:
            size = size + sizes[tops[lower]]
            if levels[tops[lower]] > deepest:
                deepest = levels[tops[lower]]
        sizes[number] = size
        levels[number] = own + deepest
    return sizes[order[-1]], levels[order[-1]]


def built(cells, tops, order, names, is_small):
    """Return the root for which the last cell of an order stands; the dict has the names of the variables in it."""
    parts = {}
    for number in order:
        word, text, below = cells[number]
        inner = [parts[tops[lower]] for lower in below]
        parts[number] = _part(word, names.get(number, text), inner, is_small)
    return parts[order[-1]]


def names_below(cells, tops, top):
    """Return a dict from the numbers of the variables below a cell to their names: x1, x2, .. as they occur."""
    names = {}
    seen = {}
    waiting = [top]
    while waiting:
        number = waiting.pop()
        if number not in seen:
            seen[number] = True
            word, _, below = cells[number]
            if word in VARIABLES:
                names[number] = f"x{len(names) + 1}"
            waiting.extend([tops[lower] for lower in below[::-1]])
    return names


def _inside(part):
    """Return the parts of a node, or the first item of a row and the row behind it; nothing for other parts."""
    if isinstance(part, (str, Var, Word, Rest)):
        return ()
    if isinstance(part, tuple):
        return (part[0], _row(part[1:])) if len(part) > 0 else ()
    return tuple([_row(inner) for inner in part.parts])


def _row(part):
    """Return a part; a row that consists of a Rest alone is this Rest."""
    if isinstance(part, tuple) and len(part) == 1 and isinstance(part[0], Rest):
        return part[0]
    return part


def _head(part):
    """Return the word and the text of the cell of a part."""
    if isinstance(part, str):
        return "text", part
    if isinstance(part, tuple):
        return ("item", "") if len(part) > 0 else ("end", "")
    if is_variable(part):
        return _variable_word(part), ""
    return "node", part.form


def _common_head(group):
    """Return the word and the text of the cell for what stands at one place."""
    heads = [_head(part) for part in group]
    if all([head == heads[0] for head in heads]):
        return heads[0]
    return _variable_word(group[0]), ""


def _variable_word(part):
    """Return the word of a variable that can stand for a part."""
    if isinstance(part, (str, Word)):
        return "word"
    return "rest" if isinstance(part, (tuple, Rest)) else "var"


def _key(group):
    """Return the texts of what stands at one place; they are the same for the same parts only."""
    # The text of a long row would be made again for each row behind one of its items.
    return tuple([_texts(part) if isinstance(part, tuple) else part_text(part) for part in group])


def _texts(row):
    """Return the tuple of the texts of the items of a row, and of a Rest behind them."""
    return tuple([item.text for item in row])


def _part(word, text, inner, is_small):
    """Return the part for which a cell stands, from its word, its text or name, and the parts below it.

    A Rest is a row here, so that it can stand behind items.
    """
    if word == "node":
        return Like(text, *inner) if is_small else Sketch(text, *inner)
    if word == "item":
        return (inner[0],) + inner[1]
    if word == "text":
        return text
    if word == "end":
        return ()
    if word == "rest":
        return (Rest(text),)
    return Var(text) if word == "var" else Word(text)
