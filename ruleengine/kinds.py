"""Tests of what a value of any kind is.

None of them looks deeper into a value than it has to, so they end quickly for every value.
"""

LETTERS = "ABCDEFGHIJKLMNOPQRSTUVWXYZabcdefghijklmnopqrstuvwxyz"
NAME_SIGNS = "ABCDEFGHIJKLMNOPQRSTUVWXYZabcdefghijklmnopqrstuvwxyz0123456789_"
MAX_NAME = 20
TEXT = "text"
ROW_SIGN = "*"


def is_number(value):
    """Tell if a value is an integer; True and False are none."""
    return isinstance(value, int) and not isinstance(value, bool)


def is_name(value):
    """Tell if a value is a name."""
    if not isinstance(value, str) or not 1 <= len(value) <= MAX_NAME:
        return False
    return value[0] in LETTERS and all([sign in NAME_SIGNS for sign in value])


def is_sort(value):
    """Tell if a value is a name that a sort can have."""
    return is_name(value) and value != TEXT


def is_taken(value):
    """Tell if a value is something that a slot can take."""
    if not isinstance(value, str):
        return False
    return value == TEXT or is_sort(sort_taken(value))


def sort_taken(takes):
    """Return the sort of the node, or of the row of nodes, that a slot takes."""
    if takes.endswith(ROW_SIGN):
        return takes[:-1]
    return takes


def is_word(value, words):
    """Tell if a value is one of some texts."""
    return isinstance(value, str) and value in words


def is_told(value, many, words):
    """Tell if a value is a tuple of so many items that begins with one of some texts."""
    return isinstance(value, tuple) and len(value) == many and is_word(value[0], words)


def is_same(value, wanted):
    """Tell if a value of any kind is the wanted one, which consists of tuples, texts, numbers and None."""
    if isinstance(wanted, tuple):
        if not isinstance(value, tuple) or len(value) != len(wanted):
            return False
        return all([is_same(item, part) for item, part in zip(value, wanted)])
    if isinstance(wanted, str):
        return isinstance(value, str) and value == wanted
    if is_number(wanted):
        return is_number(value) and value == wanted
    return value is None


def are_numbers(value):
    """Tell if a value is a tuple of integers."""
    return isinstance(value, tuple) and all([isinstance(item, int) and not isinstance(item, bool) for item in value])
