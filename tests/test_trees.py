"""Tests of the class Tree in ruleengine.trees."""

import unittest

from ruleengine.errors import InvalidPath, InvalidTree
from ruleengine.forms import Form
from ruleengine.trees import Like, Rest, Tree, Var, Word
from tests.helpers import Case, names, not_names, odd_values, repeated

LEAF = Tree("Leaf")


def sample():
    """A tree with texts, nodes and rows among its parts."""
    first = Tree("If", Tree("Set", "a"), Tree("Stop"))
    return Tree("Seq", (first, Tree("Use", "a")), "x", Tree("While", Tree("Use", "b")), ())


def chain(levels, bottom=LEAF):
    """A tree of so many levels, with one node in each above the bottom."""
    tree = bottom
    for _ in range(levels - 1):
        tree = Tree("Neg", tree)
    return tree


def broad(nodes):
    """A tree of so many nodes in two levels."""
    return Tree("Row", (LEAF,) * (nodes - 1))


def odd_parts():
    """Pairs of a label and a value that is no part of a tree."""
    return odd_values() + [
        ("a long text", "x" * 61), ("a very long text", "x" * 20000), ("a Like", Like("A")), ("a Var", Var("x")),
        ("a Word", Word("x")), ("a Rest", Rest("x")), ("a form", Form("A", "e")), ("a row with a Like", (Like("A"),)),
        ("a row with a Var", (LEAF, Var("x"))), ("a row with a Rest", (LEAF, Rest("x"))),
        ("a row with a text", (LEAF, "a")), ("a row with None behind", (LEAF, LEAF, None)),
        ("a row in a row", ((LEAF,),)), ("a row with a long list", (LEAF, repeated(list))),
        ("a list of trees", [LEAF]), ("a dict of trees", {0: LEAF}),
    ]


def odd_paths():
    """Pairs of a label and a value that is no path of the sample."""
    return odd_values() + [
        ("a text", "0"), ("no text", ""), ("a name", "Seq"), ("a list", [0]), ("a list of a path", [(0,)]),
        ("too great", (3,)), ("negative", (-1,)), ("far too great", (10 ** 999,)), ("far too small", (-10 ** 999,)),
        ("too deep", (0, 0, 0)), ("below a leaf", (1, 0)), ("negative below", (0, -1)), ("too great below", (0, 2)),
        ("True", (True,)), ("False", (False,)), ("False below", (0, False)), ("True below", (0, True)),
        ("None below", (0, None)), ("a text below", (0, "0")), ("a list below", (0, [0])),
        ("a tuple below", (0, (0,))), ("a long tuple below", (0, repeated(tuple))), ("None behind a leaf", (1, None)),
        ("long", (0,) * 300),
        ("a tree", LEAF), ("a tree in a tuple", (LEAF,)), ("a Var", Var("x")),
    ]


class TreeTest(Case):

    def test_properties(self):
        tree = sample()
        self.assertEqual(tree.form, "Seq")
        self.assertEqual(len(tree.parts), 4)
        self.assertIs(type(tree.parts), tuple)
        self.assertEqual(tree.parts[0], (Tree("If", Tree("Set", "a"), Tree("Stop")), Tree("Use", "a")))
        self.assertEqual(tree.parts[1:], ("x", Tree("While", Tree("Use", "b")), ()))
        self.assertIs(type(tree.children), tuple)
        self.assertEqual([child.text for child in tree.children],
                         ['If(Set("a"), Stop())', 'Use("a")', 'While(Use("b"))'])
        self.assertEqual(tree.levels, 3)
        self.assertEqual(len(tree), 7)
        self.assertEqual(tree.text, 'Seq([If(Set("a"), Stop()), Use("a")], "x", While(Use("b")), [])')

    def test_a_tree_without_parts(self):
        for tree in (Tree("One"), Tree(form="One"), LEAF.put((), Tree("One"))):
            self.assertEqual((tree.form, tree.parts, tree.children), ("One", (), ()))
            self.assertEqual((tree.levels, tree.text, len(tree)), (1, "One()", 1))

    def test_a_tree_without_children(self):
        tree = Tree("A", "x", (), "", ())
        self.assertEqual((tree.parts, tree.children), (("x", (), "", ()), ()))
        self.assertEqual((tree.levels, tree.text, len(tree)), (1, 'A("x", [], "", [])', 1))

    def test_the_very_parts_are_kept(self):
        row, one = (Tree("B"), Tree("C")), Tree("D")
        tree = Tree("A", row, one)
        self.assertIs(tree.parts[1], one)
        for child, wanted in zip(tree.children, (*row, one)):
            self.assertIs(child, wanted)

    def test_class_values(self):
        self.assertEqual((Tree.MAX_NODES, Tree.MAX_LEVELS), (400, 100))
        self.assertEqual((LEAF.MAX_NODES, LEAF.MAX_LEVELS), (400, 100))

    def test_levels(self):
        deep, flat = Tree("A", Tree("B", Tree("C"))), Tree("D")
        for parts, levels in (((deep, flat), 4), ((flat, deep), 4), (((flat, deep), flat), 4), ((flat, (flat,)), 2),
                              (((deep,), (flat,)), 4), (("x", (), flat), 2)):
            self.assertEqual(Tree("Top", *parts).levels, levels)

    def test_texts(self):
        cases = [
            ("", '""'), ("a", '"a"'), ('"', '"\\""'), ("\\", '"\\\\"'), ("\n", '"\\n"'), ("\\n", '"\\\\n"'),
            ('\\"', '"\\\\\\""'), ('say "a\\b"\nor\n', '"say \\"a\\\\b\\"\\nor\\n"'), ("a, b", '"a, b"'),
            ("(x) [y]", '"(x) [y]"'), ("'", '"\'"'), ("$x *r", '"$x *r"'), (" ", '" "'),
        ]
        for part, text in cases:
            with self.subTest(part):
                self.assertEqual(Tree("A", part).text, "A(" + text + ")")
                self.assertEqual(Tree("A", (Tree("B", part, part),)).text, "A([B(" + text + ", " + text + ")])")

    def test_texts_of_rows(self):
        self.assertEqual(Tree("A", (LEAF,)).text, "A([Leaf()])")
        self.assertEqual(Tree("A", (LEAF, LEAF), LEAF).text, "A([Leaf(), Leaf()], Leaf())")
        self.assertEqual(Tree("A", (), (Tree("B", ()),)).text, "A([], [B([])])")

    def test_names_of_forms(self):
        for name in names():
            with self.subTest(name):
                self.assertEqual(Tree(name, "x").text, name + '("x")')

    def test_wrong_names_of_forms(self):
        for label, name in [*not_names(), ("a form", Form("A", "e")), ("a tree", LEAF)]:
            with self.subTest(label):
                self.check_raises(InvalidTree, {"part": "form"}, lambda: Tree(name))
                self.check_raises(InvalidTree, {"part": "form"}, lambda: Tree(name, "x"))

    def test_wrong_parts(self):
        for label, part in odd_parts():
            with self.subTest(label):
                self.check_raises(InvalidTree, {"part": 0}, lambda: Tree("A", part))
                self.check_raises(InvalidTree, {"part": 1}, lambda: Tree("A", "x", part, LEAF))
                self.check_raises(InvalidTree, {"part": 3}, lambda: Tree("A", (LEAF,), LEAF, (), part, part, None))

    def test_lengths_of_texts(self):
        for text in ("x" * 60, "\\" * 60, '"' * 60, "\n" * 60):
            self.assertEqual(Tree("A", text).parts, (text,))
            self.check_raises(InvalidTree, {"part": 0}, lambda: Tree("A", text + text[0]))
        self.check_raises(InvalidTree, {"part": 1}, lambda: Tree("A", "x" * 60, "x" * 61))

    def test_nodes(self):
        self.assertEqual(len(broad(400)), 400)
        self.assertEqual(len(Tree("A", broad(200), (broad(199),))), 400)
        for call in (lambda: broad(401), lambda: Tree("A", broad(200), (broad(200),)), lambda: Tree("A", broad(400)),
                     lambda: Tree("A", (broad(400),)), lambda: Tree("A", *[LEAF] * 400), lambda: broad(100000),
                     lambda: Tree("A", (broad(400),) * 1000)):
            self.check_raises(InvalidTree, {"part": "size"}, call)

    def test_the_number_of_levels(self):
        tree = chain(100)
        self.assertEqual((tree.levels, len(tree)), (100, 100))
        self.check_raises(InvalidTree, {"part": "size"}, lambda: Tree("A", tree))
        self.check_raises(InvalidTree, {"part": "size"}, lambda: Tree("A", (LEAF, tree)))
        self.check_raises(InvalidTree, {"part": "size"}, lambda: Tree("A", tree, LEAF))

    def test_both_limits_at_once(self):
        tree = chain(99, broad(302))
        self.assertEqual((tree.levels, len(tree)), (100, 400))

    def test_first_listed_fault_is_raised(self):
        self.check_raises(InvalidTree, {"part": "form"}, lambda: Tree("1", None))
        self.check_raises(InvalidTree, {"part": "form"}, lambda: Tree(None, broad(400)))
        self.check_raises(InvalidTree, {"part": 1}, lambda: Tree("A", broad(400), None))
        self.check_raises(InvalidTree, {"part": 1}, lambda: Tree("A", (LEAF,) * 400, [LEAF], "x" * 61))
        self.check_raises(InvalidTree, {"part": 0}, lambda: Tree("A", (LEAF,) * 400 + (None,)))
        self.check_raises(InvalidTree, {"part": 2}, lambda: Tree("A", "x", chain(100), "x" * 61, 0))

    def test_many_parts(self):
        tree = Tree("A", *["x"] * 1000)
        self.assertEqual((len(tree.parts), len(tree), tree.levels), (1000, 1, 1))
        self.check_raises(InvalidTree, {"part": 1000}, lambda: Tree("A", *["x"] * 1000, None))

    def test_a_tree_may_contain_one_object_many_times(self):
        tree = LEAF
        for _ in range(7):
            tree = Tree("Add", tree, tree)
        self.assertEqual((len(tree), tree.levels), (255, 8))
        self.assertEqual(len(list(tree.each_path())), 255)
        self.check_raises(InvalidTree, {"part": "size"}, lambda: Tree("Add", tree, tree))

    def test_equality(self):
        tree = sample()
        self.check_equal(tree, tree)
        self.check_equal(tree, sample())
        self.check_equal(Tree("A"), Tree("A"))
        self.check_equal(chain(100), chain(100))
        self.check_equal(broad(400), broad(400))

    def test_inequality(self):
        one, two = Tree("B"), Tree("C")
        trees = [
            Tree("A"), Tree("a"), Tree("A", ""), Tree("A", ()), Tree("A", one), Tree("A", (one,)), Tree("A", two),
            Tree("A", (one, two)), Tree("A", (two, one)), Tree("A", one, two), Tree("A", two, one),
            Tree("A", (one,), (two,)), Tree("A", (one, two), ()), Tree("A", (), (one, two)), Tree("A", "B()"),
            Tree("A", "B"), Tree("A", "a", "b"), Tree("A", 'a", "b'), Tree("A", "ab"), Tree("A", "\n"),
            Tree("A", "\\n"), Tree("A", "n"), Tree("A", "\\"), Tree("A", '"'), Tree("A", '\\"'), Tree("A", " "),
            Tree("A", Tree("B", one)), Tree("A", Tree("B", "")), Tree("A", Tree("B", "x")), Tree("A", "x"),
            chain(99), chain(100), broad(399), broad(400), sample(), sample().put((1,), one), sample().put((2, 0), one),
        ]
        for number, tree in enumerate(trees):
            for other in trees[:number]:
                self.check_unequal(tree, other)

    def test_a_tree_is_no_other_value(self):
        values = [("its text", "Leaf()"), ("its form", "Leaf"), ("a Like", Like("Leaf")), ("a Var", Var("Leaf")),
                  ("a form", Form("Leaf", "e")), ("a row", (LEAF,)), ("a list", [LEAF])]
        for label, value in odd_values() + values:
            with self.subTest(label):
                self.check_unequal(LEAF, value)

    def test_other_operators(self):
        for call in (lambda: LEAF < LEAF, lambda: LEAF <= LEAF, lambda: LEAF + LEAF, lambda: LEAF & 1, lambda: -LEAF):
            with self.assertRaises(TypeError):
                call()

    def test_it_is_not_iterated_over(self):
        with self.assertRaises(TypeError):
            list(sample())

    def test_the_passed_list_may_change_later(self):
        parts = ["x", LEAF]
        tree = Tree("A", *parts)
        parts.append("y")
        parts[0] = "z"
        self.assertEqual(tree.text, 'A("x", Leaf())')
        self.assertEqual(tree.parts, ("x", LEAF))


class PathTest(Case):

    def test_each_path(self):
        wanted = [(), (0,), (0, 0), (0, 1), (1,), (2,), (2, 0)]
        self.assertEqual(list(sample().each_path()), wanted)
        self.assertEqual(list(sample().each_path()), wanted)
        self.assertEqual(list(LEAF.each_path()), [()])
        self.assertEqual([type(path) for path in sample().each_path()], [tuple] * 7)

    def test_each_path_counts_from_0_in_numbers(self):
        paths = list(broad(13).each_path())
        self.assertEqual(paths, [(), *[(number,) for number in range(12)]])

    def test_each_path_of_the_largest_trees(self):
        for tree in (broad(400), chain(100), Tree("A", chain(98, broad(2)), (broad(150), chain(80)), "x", broad(70))):
            paths = list(tree.each_path())
            self.assertEqual(len(paths), len(tree))
            self.assertEqual(paths, sorted(paths))
            self.assertEqual(len(set(paths)), len(paths))
            for path in paths:
                self.assertIn(path, tree)
        self.assertEqual(list(chain(100).each_path()), [(0,) * depth for depth in range(100)])

    def test_two_walks_at_once(self):
        tree = sample()
        self.assertEqual([(one, two) for one in tree.each_path() for two in tree.each_path()],
                         [(one, two) for one in list(tree.each_path()) for two in list(tree.each_path())])

    def test_nodes_at_paths(self):
        tree = sample()
        self.assertIs(tree[()], tree)
        texts = {(0,): 'If(Set("a"), Stop())', (0, 0): 'Set("a")', (0, 1): "Stop()", (1,): 'Use("a")',
                 (2,): 'While(Use("b"))', (2, 0): 'Use("b")'}
        for path, text in texts.items():
            self.assertTrue((path in tree) is True)
            self.assertEqual(tree[path].text, text)
            self.assertIs(type(tree[path]), Tree)
        self.assertTrue((() in tree) is True)
        self.assertIs(tree[2, 0], tree.children[2].children[0])
        self.assertIs(tree[(0,)], tree.parts[0][0])

    def test_the_deepest_path(self):
        tree = chain(100)
        self.assertEqual(tree[(0,) * 99], LEAF)
        self.assertTrue(((0,) * 99 in tree) is True)
        self.assertTrue(((0,) * 100 in tree) is False)

    def test_values_that_are_no_paths(self):
        tree = sample()
        for label, path in odd_paths():
            with self.subTest(label):
                self.assertTrue((path in tree) is False)
                self.check_raises(InvalidPath, {"value": path}, lambda: tree[path])
                self.check_raises(InvalidPath, {"value": path}, lambda: tree.put(path, LEAF))

    def test_a_tree_has_no_paths_but_its_own(self):
        self.assertTrue(((0,) in LEAF) is False)
        self.assertTrue(((2, 0) in sample()) is True)
        self.assertTrue(((2, 0) in sample().put((2,), LEAF)) is False)


class PutTest(Case):

    def test_put(self):
        new = Tree("New", (LEAF,))
        texts = {
            (): "New([Leaf()])",
            (0,): 'Seq([New([Leaf()]), Use("a")], "x", While(Use("b")), [])',
            (0, 0): 'Seq([If(New([Leaf()]), Stop()), Use("a")], "x", While(Use("b")), [])',
            (0, 1): 'Seq([If(Set("a"), New([Leaf()])), Use("a")], "x", While(Use("b")), [])',
            (1,): 'Seq([If(Set("a"), Stop()), New([Leaf()])], "x", While(Use("b")), [])',
            (2,): 'Seq([If(Set("a"), Stop()), Use("a")], "x", New([Leaf()]), [])',
            (2, 0): 'Seq([If(Set("a"), Stop()), Use("a")], "x", While(New([Leaf()])), [])',
        }
        tree = sample()
        for path, text in texts.items():
            with self.subTest(path):
                made = tree.put(path, new)
                self.assertIs(type(made), Tree)
                self.assertEqual(made.text, text)
                self.assertEqual(made[path], new)
                self.check_equal(tree.put(path=path, other=new), made)
                self.check_equal(tree.put(other=new, path=path), made)
        self.check_equal(tree, sample())

    def test_measures_afterwards(self):
        tree = sample().put((0, 1), Tree("A", Tree("B", LEAF), "y"))
        self.assertEqual((len(tree), tree.levels), (9, 5))
        self.assertEqual(list(tree.each_path())[3:6], [(0, 1), (0, 1, 0), (0, 1, 0, 0)])
        tree = tree.put((0,), LEAF)
        self.assertEqual((len(tree), tree.levels), (5, 3))
        self.assertEqual(tree.children, (LEAF, Tree("Use", "a"), Tree("While", Tree("Use", "b"))))

    def test_put_among_several_rows(self):
        tree = Tree("A", (), (LEAF, LEAF), "x", LEAF, (LEAF,))
        self.assertEqual(tree.put((0,), Tree("N")).text, 'A([], [N(), Leaf()], "x", Leaf(), [Leaf()])')
        self.assertEqual(tree.put((1,), Tree("N")).text, 'A([], [Leaf(), N()], "x", Leaf(), [Leaf()])')
        self.assertEqual(tree.put((2,), Tree("N")).text, 'A([], [Leaf(), Leaf()], "x", N(), [Leaf()])')
        self.assertEqual(tree.put((3,), Tree("N")).text, 'A([], [Leaf(), Leaf()], "x", Leaf(), [N()])')

    def test_only_one_of_several_equal_nodes_is_replaced(self):
        inner = Tree("Add", LEAF, LEAF)
        tree = Tree("Add", inner, inner)
        self.assertEqual(tree.put((1, 0), Tree("N")).text, "Add(Add(Leaf(), Leaf()), Add(N(), Leaf()))")
        self.assertEqual(tree.text, "Add(Add(Leaf(), Leaf()), Add(Leaf(), Leaf()))")

    def test_put_of_a_part_of_itself(self):
        tree = Tree("Neg", Tree("Neg", LEAF))
        self.assertEqual(tree.put((0, 0), tree).text, "Neg(Neg(Neg(Neg(Leaf()))))")
        self.assertEqual(tree.put((0,), tree[0, 0]).text, "Neg(Leaf())")

    def test_size_of_the_result(self):
        self.assertEqual(len(broad(399).put((397,), Tree("A", LEAF))), 400)
        self.assertEqual(chain(99).put((0,) * 98, Tree("A", LEAF)).levels, 100)
        self.assertEqual(len(broad(400).put((0,), LEAF)), 400)
        self.assertEqual(broad(400).put((), chain(100)), chain(100))
        self.assertEqual(chain(100).put((0,) * 99, Tree("N")).levels, 100)
        for tree, path, other in ((broad(400), (398,), Tree("A", LEAF)), (chain(100), (0,) * 99, Tree("A", LEAF)),
                                  (chain(2), (0,), chain(100)), (chain(2), (0,), broad(400)),
                                  (chain(51), (0,) * 50, chain(51)), (broad(201), (7,), broad(201))):
            self.check_raises(InvalidTree, {"part": "size"}, lambda: tree.put(path, other))

    def test_the_path_comes_first(self):
        for path in (None, [0], (1,), (0, 0), (True,)):
            self.check_raises(InvalidPath, {"value": path}, lambda: chain(2).put(path, chain(100)))


if __name__ == "__main__":
    unittest.main()
