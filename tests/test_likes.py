"""Tests of the classes Var, Word, Rest and Like in ruleengine.trees."""

import unittest

from ruleengine.errors import InvalidPart
from ruleengine.forms import Form
from ruleengine.trees import Like, Rest, Tree, Var, Word
from tests.helpers import Case, names, not_names, odd_values

LEAF = Tree("Leaf")


def chain(levels, bottom):
    """A node of a pattern of so many levels, with one node in each above the bottom."""
    node = bottom
    for _ in range(levels - 1):
        node = Like("Neg", node)
    return node


def odd_parts():
    """Pairs of a label and a value that is no part of a node of a pattern."""
    row = (LEAF, Like("A"), Var("x"))
    return odd_values() + [
        ("a long text", "x" * 61), ("a very long text", "x" * 20000), ("a Rest", Rest("x")), ("a form", Form("A", "e")),
        ("a row with a Word", (Word("x"),)), ("a row with a Word behind", (*row, Word("x"))),
        ("a row with a text", (*row, "a")), ("a row with None behind", (*row, None)), ("a row in a row", (row,)),
        ("a Rest ahead", (Rest("x"), *row)), ("a Rest between", (LEAF, Rest("x"), LEAF)),
        ("two Rests", (Rest("x"), Rest("y"))), ("two Rests behind", (*row, Rest("x"), Rest("x"))),
        ("None ahead of a Rest", (None, Rest("x"))), ("a text ahead of a Rest", (*row, "a", Rest("x"))),
        ("a Word ahead of a Rest", (Word("a"), Rest("x"))), ("a list of nodes", list(row)),
        ("a list of a Rest", [Rest("x")]), ("a row with a form", (Form("A", "e"),)),
    ]


class VariableTest(Case):

    def test_names(self):
        for kind in (Var, Word, Rest):
            for name in names():
                with self.subTest(kind.__name__ + " " + name):
                    self.assertEqual(kind(name).name, name)
                    self.assertEqual(kind(name=name).name, name)

    def test_wrong_names(self):
        for kind in (Var, Word, Rest):
            values = [*not_names(), ("a Var", Var("x")), ("a Word", Word("x")), ("a Rest", Rest("x")), ("a tree", LEAF)]
            for label, name in values:
                with self.subTest(kind.__name__ + " " + label):
                    self.check_raises(InvalidPart, {"part": "name"}, lambda: kind(name))

    def test_equality(self):
        for kind in (Var, Word, Rest):
            one = kind("x")
            for other in (one, kind("x"), kind("".join(["x"]))):
                self.check_equal(one, other)
            for other in (kind("y"), kind("X"), kind("xx"), kind("x_")):
                self.check_unequal(one, other)

    def test_other_classes_are_not_equal(self):
        variables = (Var("x"), Word("x"), Rest("x"))
        for number, one in enumerate(variables):
            for other in variables[:number]:
                self.check_unequal(one, other)
        for one in variables:
            values = [("a text", "x"), ("a Word's text", "$x"), ("a Rest's text", "*x"), ("a tree", Tree("x")),
                      ("a Like", Like("x")), ("a form", Form("x", "e"))]
            for label, value in odd_values() + values:
                with self.subTest(label):
                    self.check_unequal(one, value)

    def test_other_operators(self):
        for one in (Var("x"), Word("x"), Rest("x"), Like("x")):
            for call in (lambda: one < one, lambda: one + one, lambda: one & one, lambda: -one, lambda: one[0]):
                with self.assertRaises(TypeError):
                    call()


class LikeTest(Case):

    def test_properties(self):
        parts = ("x", Word("w"), Var("v"), (LEAF, Like("B", Var("v")), Var("u"), Rest("r")), Tree("C", "y", ()))
        like = Like("A", *parts)
        self.assertEqual(like.form, "A")
        self.assertIs(type(like.parts), tuple)
        self.assertEqual(like.parts, parts)
        self.assertEqual(like.text, 'A("x", $w, v, [Leaf(), B(v), u, *r], C("y", []))')

    def test_without_parts(self):
        for like in (Like("A"), Like(form="A")):
            self.assertEqual((like.form, like.parts, like.text), ("A", (), "A()"))

    def test_the_very_parts_are_kept(self):
        row, one, two = (Var("x"), Rest("r")), Like("B"), Word("w")
        like = Like("A", row, one, two)
        self.assertIs(like.parts[1], one)
        self.assertIs(like.parts[2], two)
        self.assertIs(like.parts[0][1], row[1])

    def test_class_values(self):
        self.assertEqual((Like.MAX_SIZE, Like.MAX_LEVELS), (60, 8))
        self.assertEqual((Like("A").MAX_SIZE, Like("A").MAX_LEVELS), (60, 8))

    def test_texts_of_variables(self):
        self.assertEqual(Like("A", Var("x")).text, "A(x)")
        self.assertEqual(Like("A", Word("x")).text, "A($x)")
        self.assertEqual(Like("A", (Rest("x"),)).text, "A([*x])")
        self.assertEqual(Like("A", (Var("x"),)).text, "A([x])")
        self.assertEqual(Like("A", (Var("x"), Rest("x"))).text, "A([x, *x])")
        self.assertEqual(Like("A", (), Word("w"), Word("w")).text, "A([], $w, $w)")
        self.assertEqual(Like("A", (Like("B", (Rest("s"),)), Rest("r"))).text, "A([B([*s]), *r])")

    def test_texts_of_texts(self):
        self.assertEqual(Like("A", 'a"\\\n', "", "$x").text, 'A("a\\"\\\\\\n", "", "$x")')
        self.assertEqual(Like("A", "\\n").text, 'A("\\\\n")')

    def test_names_of_forms(self):
        for name in names():
            with self.subTest(name):
                self.assertEqual(Like(name, "x").text, name + '("x")')

    def test_wrong_names_of_forms(self):
        for label, name in [*not_names(), ("a form", Form("A", "e")), ("a Var", Var("x")), ("a tree", LEAF)]:
            with self.subTest(label):
                self.check_raises(InvalidPart, {"part": "form"}, lambda: Like(name))
                self.check_raises(InvalidPart, {"part": "form"}, lambda: Like(name, Var("x")))

    def test_parts(self):
        for part in ("", "x" * 60, Word("w"), Var("x"), Like("B"), LEAF, (), (LEAF,), (Var("x"), Like("B"), LEAF),
                     (Rest("r"),), (Var("x"), Rest("r")), (LEAF, Like("B"), Rest("r"))):
            like = Like("A", part)
            self.assertEqual(like.parts, (part,))
            self.assertEqual(Like("A", "x", part, part).parts, ("x", part, part))

    def test_wrong_parts(self):
        for label, part in odd_parts():
            with self.subTest(label):
                self.check_raises(InvalidPart, {"part": 0}, lambda: Like("A", part))
                self.check_raises(InvalidPart, {"part": 1}, lambda: Like("A", Word("x"), part, LEAF))
                ahead = ((Rest("r"),), Var("x"), ())
                self.check_raises(InvalidPart, {"part": 3}, lambda: Like("A", *ahead, part, part, 0))

    def test_lengths_of_texts(self):
        for text in ("x" * 60, "\\" * 60, '"' * 60, "\n" * 60):
            self.assertEqual(Like("A", text).parts, (text,))
            self.check_raises(InvalidPart, {"part": 0}, lambda: Like("A", text + text[0]))

    def test_size(self):
        wide = Tree("Row", (LEAF,) * 57)
        for parts in ((Var("x"),) * 59, ((Var("x"),) * 59,), ((LEAF,) * 59,), (Like("B"),) * 59,
                      (wide, Var("x")), (wide, Like("B")), ((wide, Var("x"), Rest("r")),), (wide, (LEAF,), Word("w")),
                      ((LEAF,) * 20, Var("x"), (Like("B", Var("y")),) * 19)):
            self.assertEqual(Like("A", *parts).parts, parts)
            for more in (Var("z"), LEAF, Like("B"), (Var("z"),), (LEAF, Rest("s"))):
                self.check_raises(InvalidPart, {"part": "size"}, lambda: Like("A", *parts, more))
                self.check_raises(InvalidPart, {"part": "size"}, lambda: Like("A", more, *parts))

    def test_size_of_trees_below(self):
        self.assertEqual(Like("A", Tree("Row", (LEAF,) * 58)).form, "A")
        for part in (Tree("Row", (LEAF,) * 59), (Tree("Row", (LEAF,) * 59),), Tree("Row", (LEAF,) * 399)):
            self.check_raises(InvalidPart, {"part": "size"}, lambda: Like("A", part))

    def test_texts_words_and_rests_do_not_count(self):
        full = (Var("x"),) * 59
        for more in ("x", Word("w"), (), (Rest("r"),)):
            self.assertEqual(len(Like("A", *full, *[more] * 100).parts), 159)

    def test_levels(self):
        for bottom in (Var("x"), LEAF, Like("B"), Like("B", "x", Word("w"), (), (Rest("r"),))):
            node = chain(8, bottom)
            self.assertEqual(type(node), Like)
            self.check_raises(InvalidPart, {"part": "size"}, lambda: Like("A", node))
            self.check_raises(InvalidPart, {"part": "size"}, lambda: Like("A", Var("x"), (LEAF, node, Rest("r"))))
            self.check_raises(InvalidPart, {"part": "size"}, lambda: Like("A", node, Var("x")))
            self.check_raises(InvalidPart, {"part": "size"}, lambda: chain(9, bottom))

    def test_levels_of_trees_below(self):
        tree = LEAF
        for _ in range(6):
            tree = Tree("Neg", tree)
        self.assertEqual(tree.levels, 7)
        self.assertEqual(Like("A", tree, (tree,)).form, "A")
        for part in (Tree("Neg", tree), (LEAF, Tree("Neg", tree))):
            self.check_raises(InvalidPart, {"part": "size"}, lambda: Like("A", part))
        self.check_raises(InvalidPart, {"part": "size"}, lambda: Like("A", Like("B", tree)))

    def test_both_limits_at_once(self):
        like = chain(7, Like("B", *[Var("x")] * 53))
        self.assertEqual(like.text, "Neg(" * 6 + "B(" + ", ".join(["x"] * 53) + ")" * 7)
        self.check_raises(InvalidPart, {"part": "size"}, lambda: chain(7, Like("B", *[Var("x")] * 54)))

    def test_one_object_many_times(self):
        like = Like("Leaf")
        for _ in range(4):
            like = Like("Add", like, like)
        self.assertEqual(len(like.text), 16 * len("Leaf()") + 15 * len("Add(, )"))
        self.check_raises(InvalidPart, {"part": "size"}, lambda: Like("Add", like, like))

    def test_first_listed_fault_is_raised(self):
        many = (Var("x"),) * 60
        self.check_raises(InvalidPart, {"part": "form"}, lambda: Like("1", None))
        self.check_raises(InvalidPart, {"part": "form"}, lambda: Like(None, many))
        self.check_raises(InvalidPart, {"part": 1}, lambda: Like("A", many, None))
        self.check_raises(InvalidPart, {"part": 1}, lambda: Like("A", many, [LEAF], Rest("x")))
        self.check_raises(InvalidPart, {"part": 0}, lambda: Like("A", (*many, None)))
        self.check_raises(InvalidPart, {"part": 1}, lambda: Like("A", chain(8, LEAF), Rest("r")))

    def test_equality(self):
        like = Like("A", Word("w"), (Var("x"), Rest("r")))
        for other in (like, Like("A", Word("w"), (Var("x"), Rest("r")))):
            self.check_equal(like, other)
        self.check_equal(Like("A", Tree("B", Tree("C"))), Like("A", Like("B", Tree("C"))))
        self.check_equal(Like("A", (Tree("B", "x"),)), Like("A", (Like("B", "x"),)))

    def test_inequality(self):
        likes = [
            Like("A"), Like("B"), Like("x"), Like("A", "x"), Like("A", "$x"), Like("A", Word("x")), Like("A", Var("x")),
            Like("A", Var("y")), Like("A", Word("y")), Like("A", (Var("x"),)), Like("A", (Rest("x"),)), Like("A", ()),
            Like("A", (Rest("y"),)), Like("A", (Var("x"), Rest("x"))), Like("A", Like("x")), Like("A", (Like("x"),)),
            Like("A", Var("x"), Var("x")), Like("A", (Var("x"), Var("x"))), Like("A", (Var("x"),), Var("x")),
            Like("A", "\n"), Like("A", "\\n"), Like("A", "*x"), Like("A", "x", "x"), Like("A", 'x", "x'),
        ]
        for number, like in enumerate(likes):
            for other in likes[:number]:
                self.check_unequal(like, other)

    def test_a_like_is_no_other_value(self):
        like = Like("A")
        values = [("its text", "A()"), ("its form", "A"), ("the tree", Tree("A")), ("a Var", Var("A")),
                  ("a form", Form("A", "e")), ("a row", (like,)), ("a list", [like])]
        for label, value in odd_values() + values:
            with self.subTest(label):
                self.check_unequal(like, value)

    def test_the_passed_list_may_change_later(self):
        parts = [Word("w"), LEAF]
        like = Like("A", *parts)
        parts.append("y")
        parts[0] = "z"
        self.assertEqual(like.text, "A($w, Leaf())")
        self.assertEqual(like.parts, (Word("w"), LEAF))


if __name__ == "__main__":
    unittest.main()
