"""A schema, and short ways to write its trees and patterns."""

from ruleengine.forms import Form, Schema
from ruleengine.patterns import Pattern
from ruleengine.trees import Like, Rest, Tree, Var, Word


def make_schema():
    """The schema, made anew: equal to the other one, but another object."""
    return Schema(
        Form("Num", "expr", value="text"),
        Form("Neg", "expr", of="expr"),
        Form("Add", "expr", left="expr", right="expr"),
        Form("Call", "expr", what="text", args="expr*"),
        Form("Let", "stmt", word="text", value="expr", body="stmt*", other="expr*"),
        Form("Pass", "stmt"),
    )


SCHEMA = make_schema()
OTHER = Schema(Form("Num", "expr", value="text"), Form("Pass", "stmt"))
X, Y, Z, S = Var("x"), Var("y"), Var("z"), Var("s")
U, W = Word("u"), Word("w")
R, Q = Rest("r"), Rest("q")
PASS = Tree("Pass")


def num(text):
    return Tree("Num", text)


ONE, TWO, THREE = num("1"), num("2"), num("3")


def neg(of):
    return Tree("Neg", of)


def add(left, right):
    return Tree("Add", left, right)


def call(what, *args):
    return Tree("Call", what, args)


def p_num(text):
    return Like("Num", text)


def p_neg(of):
    return Like("Neg", of)


def p_add(left, right):
    return Like("Add", left, right)


def p_call(what, *args):
    return Like("Call", what, args)


def let(word, value, body=(), other=()):
    return Tree("Let", word, value, body, other)


def p_let(word, value, body=(), other=()):
    return Like("Let", word, value, body, other)


def expr(root):
    """The pattern of a root of the sort expr."""
    return Pattern(SCHEMA, root, "expr")


def stmt(root):
    """The pattern of a root of the sort stmt."""
    return Pattern(SCHEMA, root, "stmt")


def negs(levels, bottom=ONE):
    """A tree, or a node of a pattern, of so many levels with one node in each."""
    node = bottom
    for _ in range(levels - 1):
        node = Tree("Neg", node) if isinstance(node, Tree) else Like("Neg", node)
    return node


def some_things():
    """Objects of the package that are no roots, conditions, rules or answers."""
    return [("a schema", SCHEMA), ("a form", SCHEMA["Num"]), ("a pattern", expr(X)), ("a Word", U), ("a Rest", R)]
