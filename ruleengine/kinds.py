"""Tests of what a value of any kind is.

None of them looks deeper into a value than its first level, so they end quickly for every value.
"""

LETTERS = "ABCDEFGHIJKLMNOPQRSTUVWXYZabcdefghijklmnopqrstuvwxyz"
NAME_SIGNS = "ABCDEFGHIJKLMNOPQRSTUVWXYZabcdefghijklmnopqrstuvwxyz0123456789_"
MAX_NAME = 20
TEXT = "text"
ROW_SIGN = "*"


def is_number(value):
    """Tell if a value is an integer; True and False are none."""
    return isinstance(value, int) and not isinstance(value, bool)


def is_name(value):
    """Tell if a value is a name."""
    if not isinstance(value, str) or not 1 <= len(value) <= MAX_NAME:
        return False
    return value[0] in LETTERS and all([sign in NAME_SIGNS for sign in value])


def is_sort(value):
    """Tell if a value is a name that a sort can have."""
    return is_name(value) and value != TEXT


def is_taken(value):
    """Tell if a value is something that a slot can take."""
    if not isinstance(value, str):
        return False
    return value == TEXT or is_sort(sort_taken(value))


def sort_taken(takes):
    """Return the sort of the node, or of the row of nodes, that a slot takes."""
    if takes.endswith(ROW_SIGN):
        return takes[:-1]
    return takes
