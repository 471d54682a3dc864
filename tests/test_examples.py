"""The examples of the document's interface, as they stand there."""

import doctest
import unittest

PATTERNS = '''
>>> from ruleengine.forms import Form, Schema
>>> from ruleengine.patterns import Pattern, mismatch
>>> from ruleengine.trees import Like, Tree, Var
>>> schema = Schema(Form("Num", "expr", value="text"), Form("Add", "expr", left="expr", right="expr"))
>>> one, two = Tree("Num", "1"), Tree("Num", "2")
>>> twice, both = Pattern(schema, Like("Add", Var("x"), Var("x"))), Pattern(schema, Like("Add", Var("x"), Var("y")))
>>> common, wide = twice & Pattern(schema, Like("Add", Var("y"), two)), Pattern(schema, Tree("Add", one, two)) | Pattern(schema, Tree("Add", two, two))
>>> twice(Tree("Add", one, one)) == {"x": one}, mismatch(twice, Tree("Add", one, two)), twice <= both, both <= twice, common.text, wide.text
(True, ((1,), None, 'equal'), True, False, 'Add(Num("2"), Num("2"))', 'Add(Num($x1), Num("2"))')
'''

RULES = '''
>>> from ruleengine.conditions import Has, Inside
>>> from ruleengine.forms import Form, Schema
>>> from ruleengine.rules import Rule, RuleSet
>>> from ruleengine.trees import Like, Rest, Tree, Word
>>> schema = Schema(Form("Num", "expr", value="text"), Form("Call", "expr", what="text", args="expr*"))
>>> call = Like("Call", Word("f"), (Rest("r"),))
>>> rules = RuleSet(schema, Rule("outer", call, -Inside(Like("Call", Word("g"), (Rest("s"),)))), Rule("again", call, Has(Like("Call", Word("f"), (Rest("s"),)))))
>>> tree = Tree("Call", "f", (Tree("Call", "g", (Tree("Call", "f", ()),)), Tree("Num", "1")))
>>> [(finding.rule, finding.path) for finding in rules.run(tree)], rules.relation("outer", "again"), rules.judge("again", tree, ())[2], rules.judge("again", tree, (0,))
([('outer', ()), ('again', ())], 'same', ('at', (0, 0), {'f': 'f', 's': ()}, None), ('not', ('condition', ('nowhere', (((0, 0), ('mismatch', ((), 'what', 'equal'))),)))))
'''

FLOWS = '''
>>> from ruleengine.flows import Flow, Plan
>>> from ruleengine.forms import Form, Schema
>>> from ruleengine.trees import Tree
>>> schema = Schema(Form("Seq", "stmt", items="stmt*"), Form("If", "stmt", one="stmt", two="stmt"), Form("While", "stmt", body="stmt"), Form("Set", "stmt", word="text"), Form("Use", "stmt", word="text"), Form("Stop", "stmt"))
>>> flow = Flow(schema, {"If": Plan("choice"), "While": Plan("loop"), "Set": Plan(sets="word"), "Use": Plan(uses="word"), "Stop": Plan("stop")})
>>> tree = Tree("Seq", (Tree("If", Tree("Set", "a"), Tree("Stop")), Tree("Use", "a"), Tree("While", Tree("Use", "b"))))
>>> flow.ask(tree, flow.to_unset(tree, (1,)))[0], flow.ask(tree, flow.to_unset(tree, (2, 0)))[0], list(flow.unset_uses(tree)), list(flow.idle_sets(tree)), flow.nexts(tree, ((0, 1), "deed")), flow.nexts(tree, ((2,), "in"))
('closed', 'path', [(2, 0)], [], (), (((2,), 'deed'), ((2, 0), 'in')))
'''


class ExamplesTest(unittest.TestCase):

    def check_example(self, name, text, examples):
        """Run the examples in a text, and check that they print what stands there."""
        test = doctest.DocTestParser().get_doctest(text, {}, name, name, 0)
        self.assertEqual(len(test.examples), examples)
        told = []
        doctest.DocTestRunner().run(test, out=told.append)
        self.assertEqual("".join(told), "")

    def test_patterns(self):
        self.check_example("patterns", PATTERNS, 8)

    def test_rules(self):
        self.check_example("rules", RULES, 9)

    def test_flows(self):
        self.check_example("flows", FLOWS, 7)


if __name__ == "__main__":
    unittest.main()
