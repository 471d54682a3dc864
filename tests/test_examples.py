"""The examples of the document's interface, as they stand there."""

import doctest
import unittest

PATTERNS = '''
>>> from ruleengine.forms import Form, Schema
>>> from ruleengine.patterns import Pattern, mismatch
>>> from ruleengine.trees import Like, Tree, Var
>>> schema = Schema(Form("Num", "expr", value="text"), Form("Add", "expr", left="expr", right="expr"))
>>> one, two = Tree("Num", "1"), Tree("Num", "2")
>>> twice, both = Pattern(schema, Like("Add", Var("x"), Var("x"))), Pattern(schema, Like("Add", Var("x"), Var("y")))
>>> common, wide = twice & Pattern(schema, Like("Add", Var("y"), two)), Pattern(schema, Tree("Add", one, two)) | Pattern(schema, Tree("Add", two, two))
>>> twice(Tree("Add", one, one)) == {"x": one}, mismatch(twice, Tree("Add", one, two)), twice <= both, both <= twice, common.text, wide.text
(True, ((1,), None, 'equal'), True, False, 'Add(Num("2"), Num("2"))', 'Add(Num($x1), Num("2"))')
'''

RULES = '''
>>> from ruleengine.conditions import Has, Inside
>>> from ruleengine.forms import Form, Schema
>>> from ruleengine.rules import Rule, RuleSet
>>> from ruleengine.trees import Like, Rest, Tree, Word
>>> schema = Schema(Form("Num", "expr", value="text"), Form("Call", "expr", what="text", args="expr*"))
>>> call = Like("Call", Word("f"), (Rest("r"),))
>>> rules = RuleSet(schema, Rule("outer", call, -Inside(Like("Call", Word("g"), (Rest("s"),)))), Rule("again", call, Has(Like("Call", Word("f"), (Rest("s"),)))))
>>> tree = Tree("Call", "f", (Tree("Call", "g", (Tree("Call", "f", ()),)), Tree("Num", "1")))
>>> [(finding.rule, finding.path) for finding in rules.run(tree)], rules.relation("outer", "again"), rules.judge("again", tree, ())[2], rules.judge("again", tree, (0,))
([('outer', ()), ('again', ())], 'same', ('at', (0, 0), {'f': 'f', 's': ()}, None), ('not', ('condition', ('nowhere', (((0, 0), ('mismatch', ((), 'what', 'equal'))),)))))
'''

FLOWS = '''
>>> from ruleengine.flows import Flow, Plan
>>> from ruleengine.forms import Form, Schema
>>> from ruleengine.trees import Tree
>>> schema = Schema(Form("Seq", "stmt", items="stmt*"), Form("If", "stmt", one="stmt", two="stmt"), Form("While", "stmt", body="stmt"), Form("Set", "stmt", word="text"), Form("Use", "stmt", word="text"), Form("Stop", "stmt"))
>>> flow = Flow(schema, {"If": Plan("choice"), "While": Plan("loop"), "Set": Plan(sets="word"), "Use": Plan(uses="word"), "Stop": Plan("stop")})
>>> tree = Tree("Seq", (Tree("If", Tree("Set", "a"), Tree("Stop")), Tree("Use", "a"), Tree("While", Tree("Use", "b"))))
>>> flow.ask(tree, flow.to_unset(tree, (1,)))[0], flow.ask(tree, flow.to_unset(tree, (2, 0)))[0], list(flow.unset_uses(tree)), list(flow.idle_sets(tree)), flow.nexts(tree, ((0, 1), "deed")), flow.nexts(tree, ((2,), "in"))
('closed', 'path', [(2, 0)], [], (), (((2,), 'deed'), ((2, 0), 'in')))
'''

GUARDS = '''
>>> from ruleengine.flows import Flow, Plan
>>> from ruleengine.forms import Form, Schema
>>> from ruleengine.guards import FlowRules, Later, Reached
>>> from ruleengine.rules import Rule, RuleSet
>>> from ruleengine.trees import Like, Tree, Word
>>> schema = Schema(Form("Seq", "stmt", items="stmt*"), Form("If", "stmt", one="stmt", two="stmt"), Form("While", "stmt", body="stmt"), Form("Set", "stmt", word="text"), Form("Use", "stmt", word="text"), Form("Stop", "stmt"))
>>> flow = Flow(schema, {"If": Plan("choice"), "While": Plan("loop"), "Set": Plan(sets="word"), "Use": Plan(uses="word"), "Stop": Plan("stop")})
>>> rules = RuleSet(schema, Rule("idle", Like("Set", Word("n"))))
>>> guarded = FlowRules(rules, flow, {"idle": Reached() & -Later("n")})
>>> tree = Tree("Seq", (Tree("Set", "a"), Tree("Set", "b"), Tree("Set", "a"), Tree("Use", "a")))
>>> [finding.path for finding in guarded.run(tree)], guarded.judge("idle", tree, (2,))[1][0]
([(0,), (1,)], 'guard')
'''

FIXES = '''
>>> from ruleengine.fixes import Fixer, innermost
>>> from ruleengine.forms import Form, Schema
>>> from ruleengine.rules import Rule, RuleSet
>>> from ruleengine.trees import Like, Tree, Var
>>> schema = Schema(Form("Neg", "expr", of="expr"), Form("Add", "expr", left="expr", right="expr"), Form("One", "expr"))
>>> twice = Like("Neg", Like("Neg", Var("x")))
>>> fixer = Fixer(RuleSet(schema, Rule("twice", twice)), {"twice": Var("x")})
>>> one = Tree("One")
>>> tree = Tree("Add", Tree("Neg", Tree("Neg", Tree("Neg", one))), Tree("Neg", Tree("Neg", one)))
>>> found = innermost(list(fixer.rules.run(tree)))
>>> [finding.path for finding in found], fixer.fix_all(tree, found[0], found[1]).text, fixer.finish(tree)[1], fixer.shrinks("twice"), fixer.settles("twice")
([(0, 0), (1,)], 'Add(Neg(One()), One())', (('twice', (0,)), ('twice', (1,))), True, False)
'''

ENDINGS = '''
>>> from ruleengine.endings import all_crossings, decide_endings
>>> from ruleengine.fixes import Fixer
>>> from ruleengine.forms import Form, Schema
>>> from ruleengine.rules import Rule, RuleSet
>>> from ruleengine.trees import Like, Var
>>> schema = Schema(Form("F", "expr", of="expr"), Form("G", "expr", of="expr"), Form("H", "expr", of="expr"))
>>> rules = RuleSet(schema, Rule("a", Like("F", Like("G", Var("x")))), Rule("b", Like("G", Like("H", Var("x")))))
>>> fixer = Fixer(rules, {"a": Var("x"), "b": Like("H", Var("x"))})
>>> [(one.outer_rule, one.inner_rule, one.path, one.crossed.text, one.first.text, one.second.text) for one in all_crossings(fixer)], decide_endings(fixer)[0]
([('a', 'b', (0,), 'F(G(H(x1)))', 'H(x1)', 'F(H(x1))')], 'two')
'''

BENCHES = '''
>>> from ruleengine.benches import Bench, Suppression, reported
>>> from ruleengine.forms import Form, Schema
>>> from ruleengine.rules import Rule, RuleSet
>>> from ruleengine.trees import Like, Tree, Var
>>> schema = Schema(Form("Neg", "expr", of="expr"), Form("One", "expr"))
>>> rules = RuleSet(schema, Rule("neg", Like("Neg", Var("x"))))
>>> one = Tree("One")
>>> bench = Bench(rules, Tree("Neg", Tree("Neg", one)))
>>> bench.suppress((0,), "neg")
>>> before = [finding.path for finding in bench.report().shown]
>>> bench.put((0,), Tree("Neg", Tree("Neg", one)))
>>> told = reported(rules, bench.tree, Suppression((0,)), Suppression((0, 0), "neg"), Suppression((0, 0, 0)))
>>> before, [finding.path for finding in bench.findings], [finding.path for finding in bench.report().shown], bench.effort, told.spare, told.unused
([()], [(), (0,), (0, 0)], [()], 4, (1,), (2,))
'''


class ExamplesTest(unittest.TestCase):

    def check_example(self, name, text, examples):
        """Run the examples in a text, and check that they print what stands there."""
        test = doctest.DocTestParser().get_doctest(text, {}, name, name, 0)
        self.assertEqual(len(test.examples), examples)
        told = []
        doctest.DocTestRunner().run(test, out=told.append)
        self.assertEqual("".join(told), "")

    def test_patterns(self):
        self.check_example("patterns", PATTERNS, 8)

    def test_rules(self):
        self.check_example("rules", RULES, 9)

    def test_flows(self):
        self.check_example("flows", FLOWS, 7)

    def test_guards(self):
        self.check_example("guards", GUARDS, 11)

    def test_fixes(self):
        self.check_example("fixes", FIXES, 11)

    def test_endings(self):
        self.check_example("endings", ENDINGS, 9)

    def test_benches(self):
        self.check_example("benches", BENCHES, 13)


if __name__ == "__main__":
    unittest.main()
