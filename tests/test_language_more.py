"""More tests that the files of the package keep to their subset of Python: calls, names, and what operators change."""

import ast
import collections
import unittest

from tests.test_language import files, is_dunder

# L25: methods of builtin values.
VALUE_METHODS = set("""
    append clear copy count endswith extend find get index insert isalnum isalpha isdigit islower isspace isupper items
    join keys ljust lower lstrip partition pop remove replace reverse rfind rjust rpartition rsplit rstrip setdefault
    split splitlines startswith strip update upper values zfill bit_length
""".split())
CHANGES = set("append clear extend insert pop remove reverse setdefault update add discard sort".split())
# L26: names that builtin values have, and that own attributes and methods may have all the same.
FREE_ATTRIBUTES = set("count index title find get join lower upper split strip copy add".split())
# L23: what is iterated on the spot.
VIEWS = ("zip", "enumerate", "reversed", "range", "items", "keys", "values")
TAKERS = ("list", "tuple", "dict", "sorted", "sum", "any", "all", "enumerate", "zip", "min", "max", "len")
COMPREHENSIONS = (ast.ListComp, ast.DictComp, ast.SetComp, ast.GeneratorExp)


def trees():
    """Pairs of the name of a file and its syntax tree, in which each node knows the one above it."""
    found = []
    for name, text in files():
        tree = ast.parse(text)
        tree.holder = None
        for node in ast.walk(tree):
            for child in ast.iter_child_nodes(node):
                child.holder = node
        found.append((name, tree))
    return found


def nodes(kinds):
    """Pairs of the name of a file and a node of some kinds in it."""
    return [(name, node) for name, tree in trees() for node in ast.walk(tree) if isinstance(node, kinds)]


def called(node):
    """The name by which a call calls, with a dot before that of a method."""
    if isinstance(node.func, ast.Attribute):
        return "." + node.func.attr
    return node.func.id if isinstance(node.func, ast.Name) else None


def functions():
    """Triples of a file, the name of a class or None, and a function or method."""
    found = []
    for name, node in nodes(ast.FunctionDef):
        above = node.holder
        found.append((name, above.name if isinstance(above, ast.ClassDef) else None, node))
    return found


def own_methods():
    return {node.name for _, owner, node in functions() if owner is not None}


def assigned_names(function):
    """The local names that a function assigns."""
    names = {argument.arg for argument in ast.walk(function.args) if isinstance(argument, ast.arg)}
    names.update(node.id for node in ast.walk(function)
                 if isinstance(node, ast.Name) and isinstance(node.ctx, ast.Store))
    return names


def is_plain(node):
    """Tell if a node is a name, an attribute off a name, or a literal of these."""
    if isinstance(node, ast.Attribute):
        return isinstance(node.value, ast.Name)
    if isinstance(node, (ast.List, ast.Tuple)):
        return all(is_plain(item) for item in node.elts)
    return isinstance(node, (ast.Name, ast.Constant))


def own_lists(function):
    """The names of the lists and dicts that a function creates itself, and that mean nothing else in it."""
    values = collections.defaultdict(list)
    for node in ast.walk(function):
        if isinstance(node, ast.Assign):
            for target in node.targets:
                for name in ast.walk(target):
                    if isinstance(name, ast.Name) and isinstance(name.ctx, ast.Store):
                        values[name.id].append(node.value if target is name else None)
        elif isinstance(node, (ast.For, ast.comprehension)):
            for name in ast.walk(node.target):
                if isinstance(name, ast.Name):
                    values[name.id].append(None)
    for argument in ast.walk(function.args):
        if isinstance(argument, ast.arg):
            values[argument.arg].append(None)
    return {name for name, made in values.items() if all(is_creation(value) for value in made)}


def is_creation(value):
    if isinstance(value, ast.Call):
        return called(value) in ("list", "dict", "sorted")
    return isinstance(value, (ast.List, ast.Dict, ast.ListComp))


def is_called_class(name):
    return name is not None and name[0].isupper()


class CallTest(unittest.TestCase):

    def test_methods_of_values(self):
        own = own_methods()
        for name, node in nodes(ast.Call):
            if isinstance(node.func, ast.Attribute):
                self.assertTrue(node.func.attr in VALUE_METHODS | own | {"__init__"}, name + " " + node.func.attr)
                if node.func.attr in VALUE_METHODS:
                    self.assertEqual(node.keywords, [], name + " " + node.func.attr)

    def test_stars_in_calls(self):
        for name, node in nodes(ast.Call):
            starred = [item for item in node.args if isinstance(item, ast.Starred)]
            doubled = [item for item in node.keywords if item.arg is None]
            if starred or doubled:
                for item in [star.value for star in starred] + [double.value for double in doubled]:
                    self.assertTrue(is_plain(item), name + ":" + str(node.lineno))
                self.assertFalse((called(node) or "").startswith("Invalid"), name)

    def test_no_generators_in_calls(self):
        self.assertEqual(nodes(ast.GeneratorExp), [])

    def test_no_sets(self):
        self.assertEqual(nodes((ast.Set, ast.SetComp)), [])
        for name, node in nodes(ast.Call):
            self.assertNotIn(called(node), ("set", "frozenset"), name)

    def test_views_are_iterated_on_the_spot(self):
        for name, node in nodes(ast.Call):
            if (called(node) or "").lstrip(".") in VIEWS:
                upper = node.holder
                is_looped = isinstance(upper, (ast.For, ast.comprehension)) and upper.iter is node
                is_taken = isinstance(upper, ast.Call) and called(upper) in TAKERS and node in upper.args
                is_reversed_range = isinstance(upper,
                                               ast.Call) and called(upper) == "reversed" and called(node) == "range"
                is_kept = isinstance(upper, ast.Assign) and called(node) == "range"
                self.assertTrue(is_looped or is_taken or is_reversed_range or is_kept, name + ":" + str(node.lineno))

    def test_no_order_of_objects(self):
        # Patterns have an order that is none of a key, so nothing is sorted or compared by min and max.
        for name, node in nodes(ast.Call):
            self.assertNotIn(called(node), ("sorted", "min", "max", ".sort"), name)

    def test_generators_are_iterated_at_once(self):
        generators = {node.name for _, _, node in functions() if any(isinstance(item, (ast.Yield, ast.YieldFrom))
                                                                    for item in ast.walk(node))}
        for name, _, node in functions():
            # Two classes of the interface have a run; both are generators, so a call by this name always gives one.
            if node.name in generators:
                self.assertTrue(any(isinstance(item, (ast.Yield, ast.YieldFrom)) for item in ast.walk(node)), name)
        for generator in generators:
            self.assertNotIn(generator, VALUE_METHODS)
        for name, node in nodes(ast.Call):
            if (called(node) or "").lstrip(".") in generators:
                upper = node.holder
                is_looped = isinstance(upper, (ast.For, ast.comprehension)) and upper.iter is node
                is_taken = isinstance(upper, ast.Call) and called(upper) in ("list", "tuple", "dict")
                self.assertTrue(is_looped or is_taken, name + ":" + str(node.lineno))


class NameTest(unittest.TestCase):

    def test_names_are_bound_once_in_a_file(self):
        for name, tree in trees():
            bound = collections.Counter()
            for node in tree.body:
                if isinstance(node, ast.ImportFrom):
                    bound.update(alias.asname or alias.name for alias in node.names)
                elif isinstance(node, (ast.FunctionDef, ast.ClassDef)):
                    bound[node.name] += 1
                elif isinstance(node, ast.Assign):
                    bound.update(target.id for target in node.targets)
            self.assertEqual([word for word, times in bound.items() if times > 1], [], name)
            for node in ast.walk(tree):
                if isinstance(node, ast.FunctionDef):
                    self.assertEqual(assigned_names(node) & set(bound), set(), name + " " + node.name)

    def test_imports_are_used_and_name_the_defining_file(self):
        defined = {}
        for name, tree in trees():
            defined["ruleengine." + name[:-3]] = {
                word for node in tree.body
                for word in ([node.name] if isinstance(node, (ast.FunctionDef, ast.ClassDef)) else
                                                        [item.id for item in getattr(node, "targets", [])])}
        for name, tree in trees():
            used = {node.id for node in ast.walk(tree) if isinstance(node, ast.Name)}
            for node in tree.body:
                if isinstance(node, ast.ImportFrom):
                    for alias in node.names:
                        self.assertIn(alias.name, defined[node.module], name)
                        self.assertIn(alias.name, used, name)

    def test_no_two_files_import_each_other(self):
        needs = {"ruleengine." + name[:-3]: {node.module for node in tree.body if isinstance(node, ast.ImportFrom)}
                 for name, tree in trees()}
        done = set()
        while len(done) < len(needs):
            ready = {name for name in needs if name not in done and needs[name] <= done}
            self.assertTrue(ready, sorted(set(needs) - done))
            done |= ready

    def test_methods_and_attributes_have_different_names(self):
        attributes = {node.attr for _, node in nodes(ast.Attribute) if isinstance(node.ctx, ast.Store)}
        self.assertEqual(attributes & own_methods(), set())
        values = {target.id for _, node in nodes(ast.ClassDef) for item in node.body if isinstance(item, ast.Assign)
                  for target in item.targets}
        self.assertEqual(values & (attributes | own_methods()), set())

    def test_attributes_are_no_names_of_builtin_values(self):
        taken = {word for kind in (str, int, list, dict, set, bytes) for word in dir(kind)} - FREE_ATTRIBUTES
        attributes = {node.attr for _, node in nodes(ast.Attribute) if isinstance(node.ctx, ast.Store)}
        self.assertEqual(attributes & taken, set())
        plain = {name for name in own_methods() if not is_dunder(name)}
        self.assertEqual(plain & (taken - VALUE_METHODS), set())

    def test_attributes_that_are_read_are_assigned(self):
        known = own_methods() | VALUE_METHODS
        known |= {node.attr for _, node in nodes(ast.Attribute) if isinstance(node.ctx, ast.Store)}
        known |= {target.id for _, node in nodes(ast.ClassDef) for item in node.body if isinstance(item, ast.Assign)
                  for target in item.targets}
        for name, node in nodes(ast.Attribute):
            self.assertIn(node.attr, known | {"__init__"}, name)


class OperatorTest(unittest.TestCase):

    def reached(self):
        """The functions and methods that operators, properties, __eq__ and __len__ run, with their files."""
        by_name = collections.defaultdict(list)
        for name, owner, node in functions():
            by_name[("." if owner is not None else "") + node.name].append((name, owner, node))
            if node.name == "__init__":
                by_name[owner].append((name, owner, node))
        waiting = [(name, owner, node) for name, owner, node in functions()
                   if is_dunder(node.name) and node.name not in ("__init__", "__call__") or node.decorator_list
                   and ast.unparse(node.decorator_list[0]) == "property"]
        found = []
        while waiting:
            item = waiting.pop()
            if item in found:
                continue
            found.append(item)
            for node in ast.walk(item[2]):
                if isinstance(node, ast.Call) and called(node) not in (".get", ".__init__"):
                    waiting.extend(by_name[called(node)])
        return found

    def test_operators_change_nothing(self):
        self.assertGreater(len(self.reached()), 50)
        for name, owner, function in self.reached():
            own = own_lists(function)
            place = name + " " + function.name
            for node in ast.walk(function):
                if isinstance(node, ast.Subscript) and isinstance(node.ctx, (ast.Store, ast.Del)):
                    self.assertTrue(isinstance(node.value, ast.Name) and node.value.id in own, place)
                if isinstance(node, ast.Attribute) and isinstance(node.ctx, ast.Store):
                    self.assertEqual((function.name, ast.unparse(node.value)), ("__init__", "self"), place)
                if isinstance(node, ast.Call) and isinstance(node.func, ast.Attribute) and node.func.attr in CHANGES:
                    self.assertTrue(isinstance(node.func.value, ast.Name) and node.func.value.id in own, place)
                if isinstance(node, ast.AugAssign):
                    self.assertIsInstance(node.target, ast.Name, place)
                    self.assertIsInstance(node.value, (ast.Constant, ast.Attribute), place)

    def test_operators_call_nothing_that_they_are_passed(self):
        for name, _, function in self.reached():
            for node in ast.walk(function):
                if isinstance(node, ast.Call) and isinstance(node.func, ast.Name):
                    self.assertNotIn(node.func.id, assigned_names(function), name + " " + function.name)

    def test_equality_and_length_assign_nothing(self):
        for name, _, function in functions():
            if function.name in ("__eq__", "__len__"):
                for node in ast.walk(function):
                    self.assertNotIsInstance(node, (ast.Assign, ast.AugAssign, ast.NamedExpr, ast.Delete), name)

    def test_classes_with_items_are_not_iterated_over(self):
        for name, node in nodes(ast.ClassDef):
            methods = {item.name for item in node.body if isinstance(item, ast.FunctionDef)}
            self.assertTrue("__getitem__" not in methods or "__iter__" in methods, name + " " + node.name)

    def test_not_implemented_is_returned_only(self):
        for name, node in nodes(ast.Name):
            if node.id == "NotImplemented":
                self.assertIsInstance(node.holder, ast.Return, name)
                function = node.holder
                while not isinstance(function, ast.FunctionDef):
                    function = function.holder
                self.assertTrue(is_dunder(function.name), name)


if __name__ == "__main__":
    unittest.main()
