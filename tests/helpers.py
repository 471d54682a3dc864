"""What the tests share: values of every kind, and a test case that checks exceptions field by field."""

import faulthandler
import sys
import unittest

from ruleengine.errors import RuleengineError

LETTERS = "ABCDEFGHIJKLMNOPQRSTUVWXYZabcdefghijklmnopqrstuvwxyz"
DIGITS = "0123456789"
SIGNS = [chr(code) for code in range(32, 127) if code != 37] + ["\n"]

# Far more than a call ever takes: only a call that goes through a value part by part needs longer.
SECONDS = 100


class Thing:
    """An object of a class of the caller."""


class Agreeable:
    """An object that is equal to all values."""

    def __eq__(self, other):
        return True

    def __hash__(self):
        return hash("x")


def nested(kind):
    """A value that is nested 300 levels deep."""
    value = "a"
    for _ in range(300):
        if kind is dict:
            value = {"a": value}
        else:
            value = kind([value])
    return value


def repeated(kind):
    """A value that contains one object 2 ** 45 times."""
    value = "a"
    for _ in range(45):
        if kind is dict:
            value = {"a": value, "b": value}
        else:
            value = kind([value, value])
    return value


def odd_values():
    """Pairs of a label and a value that is no text, no tuple of numbers and no object of the package."""
    return [
        ("None", None), ("True", True), ("False", False), ("0", 0), ("1", 1), ("-1", -1),
        ("a large number", 10 ** 999), ("bytes", b"a"), ("no bytes", b""),
        ("an empty list", []), ("a list", ["a"]), ("a list of a number", [0]),
        ("an empty dict", {}), ("a dict", {"a": "text"}), ("a set", {"a"}), ("a frozen set", frozenset(["a"])),
        ("an object", object()), ("a thing", Thing()), ("a class", Thing), ("a builtin class", str),
        ("a function", odd_values), ("a builtin function", len), ("a range", range(1)),
        ("an error", ValueError("a")), ("an iterator", iter(["a"])), ("a tuple of a text", ("a",)),
        ("a tuple of None", (None,)), ("a tuple of True", (True,)), ("a tuple of a tuple", ((),)),
        ("a tuple of a list", ([],)), ("a tuple of bytes", (b"a",)),
        ("deep list", nested(list)), ("deep tuple", nested(tuple)), ("deep dict", nested(dict)),
        ("long list", repeated(list)), ("long tuple", repeated(tuple)), ("long dict", repeated(dict)),
    ]


def odd_arguments():
    """The odd values, and one that is equal to each value that is wanted."""
    return odd_values() + [("an agreeable thing", Agreeable())]


def names():
    """Texts that are names."""
    some = ["a", "Z", "text", "raw", "raw_x", "Raw_x", "a_", "a__1", "A9", "x" * 20, "x" + "_" * 19, "x" + "1" * 19]
    return some + list(LETTERS) + ["a" + sign for sign in LETTERS + DIGITS + "_"]


def other_texts():
    """Texts that are no names."""
    some = ["", "x" * 21, "x" * 20000, "_", "_a", "1", "9a", "a b", "a-b", " a", "a ", "a\n", "\na", "a*", "$a", "()"]
    first = [sign + "a" for sign in SIGNS if sign not in LETTERS]
    later = ["a" + sign for sign in SIGNS if sign not in LETTERS + DIGITS + "_"]
    between = ["a" + sign + "b" for sign in SIGNS if sign not in LETTERS + DIGITS + "_"]
    return some + first + later + between


def not_names():
    """Pairs of a label and a value that is no name."""
    return odd_arguments() + [(ascii(text[:30]), text) for text in other_texts()]


def is_same(found, wanted):
    """Tell if a field is the wanted value; texts and numbers may be other objects of the same kind."""
    if isinstance(wanted, (str, int)):
        return type(found) is type(wanted) and found == wanted
    return found is wanted


class Case(unittest.TestCase):
    """A test case whose calls must end."""

    def setUp(self):
        # A thread that does not depend on the interpreter ends the run: no signal gets through a comparison
        # or a hash of a value that contains one object 2 ** 45 times.
        faulthandler.dump_traceback_later(SECONDS, exit=True, file=sys.__stderr__)
        self.addCleanup(faulthandler.cancel_dump_traceback_later)

    def check_raises(self, wanted, fields, call):
        """Check that a call raises an exception of this very class with these fields."""
        raised = None
        try:
            call()
        except RuleengineError as error:
            raised = error
        self.assertTrue(raised is not None, "nothing was raised")
        self.assertEqual(type(raised).__name__, wanted.__name__)
        self.assertTrue(type(raised) is wanted)
        for name, value in fields.items():
            # No assertEqual: its message would write out values that are too long for that.
            self.assertTrue(is_same(getattr(raised, name), value), "the field " + name + " is another value")

    def check_unequal(self, one, other):
        """Check that two values are not equal, whichever stands first."""
        self.assertTrue((one == other) is False)
        self.assertTrue((other == one) is False)
        self.assertTrue((one != other) is True)
        self.assertTrue((other != one) is True)

    def check_equal(self, one, other):
        """Check that two values are equal, whichever stands first."""
        self.assertTrue((one == other) is True)
        self.assertTrue((other == one) is True)
        self.assertTrue((one != other) is False)
        self.assertTrue((other != one) is False)
