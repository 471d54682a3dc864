"""Tests of the class Schema in ruleengine.forms."""

import unittest

from ruleengine.errors import InvalidSchema, UnknownName
from ruleengine.forms import Form, Schema
from ruleengine.trees import Tree
from tests.helpers import Case, odd_values


def some_forms():
    """Forms of three sorts; one of them occurs as that of a slot before its own form."""
    return (
        Form("Seq", "stmt", items="stmt*"),
        Form("Print", "stmt", label="text", values="expr*"),
        Form("Block", "part", body="stmt", after="part"),
        Form("Num", "expr", value="text"),
        Form("End", "part"),
    )


def many_forms(many):
    """So many forms of one sort."""
    return tuple([Form("F" + str(number), "e", one="e") for number in range(many)])


class SchemaTest(Case):

    def check_both(self, fault, item, forms):
        """Check what a schema of these values raises, created in both ways."""
        self.check_raises(InvalidSchema, {"fault": fault, "item": item}, lambda: Schema(*forms))
        self.check_raises(InvalidSchema, {"fault": fault, "item": item}, lambda: Schema.of(forms))

    def test_properties(self):
        forms = some_forms()
        for schema in (Schema(*forms), Schema.of(forms), Schema.of(forms=forms)):
            self.assertIs(type(schema), Schema)
            self.assertIs(type(schema.forms), tuple)
            self.assertEqual(len(schema.forms), 5)
            for form, declared in zip(forms, schema.forms):
                self.assertIs(form, declared)
            self.assertEqual(schema.sorts, ("stmt", "expr", "part"))

    def test_sorts_are_told_in_the_order_in_which_they_occur(self):
        one, two = Form("A", "a", x="c*", y="text", z="b"), Form("B", "b", x="a")
        three = Form("C", "c")
        self.assertEqual(Schema(one, two, three).sorts, ("a", "c", "b"))
        self.assertEqual(Schema(two, one, three).sorts, ("b", "a", "c"))
        self.assertEqual(Schema(three, two, one).sorts, ("c", "b", "a"))
        self.assertEqual(Schema(three).sorts, ("c",))

    def test_class_value(self):
        self.assertEqual(Schema.MAX_FORMS, 20)
        self.assertEqual(Schema(Form("A", "e")).MAX_FORMS, 20)

    def test_declared_forms(self):
        schema = Schema(*some_forms())
        for form in schema.forms:
            self.assertTrue((form.name in schema) is True)
            self.assertIs(schema[form.name], form)

    def test_raw_forms(self):
        schema = Schema(*some_forms())
        for sort in ("stmt", "expr", "part"):
            name = "raw_" + sort
            self.assertTrue((name in schema) is True)
            raw = schema[name]
            self.assertIs(type(raw), Form)
            self.assertEqual((raw.name, raw.kin, raw.slots), (name, sort, (("text", "text"),)))

    def test_other_names(self):
        schema = Schema(*some_forms())
        for name in ("", "stmt", "seq", "Seq ", "raw_", "raw_Seq", "raw_text", "raw_raw_stmt", "raw_stmt*", "text",
                     "Seq\n"):
            with self.subTest(name):
                self.assertTrue((name in schema) is False)
                self.check_raises(UnknownName, {"word": name}, lambda: schema[name])

    def test_values_that_are_no_names(self):
        schema = Schema(*some_forms())
        values = [*odd_values(), ("a form", schema.forms[0]), ("a schema", schema), ("a tree", Tree("Seq")),
                  ("bytes of a name", b"Seq"), ("a list of a name", ["Seq"]), ("a tuple of a name", ("Seq",))]
        for label, value in values:
            with self.subTest(label):
                self.assertTrue((value in schema) is False)
                self.check_raises(UnknownName, {"word": value}, lambda: schema[value])

    def test_the_first_value_that_is_no_form(self):
        form = Form("A", "e")
        for label, value in [*odd_values(), ("a text", "A"), ("a tree", Tree("A")), ("a schema", Schema(form)),
                             ("a tuple", (form,)), ("a list", [form])]:
            with self.subTest(label):
                self.check_both("form", 0, (value,))
                self.check_both("form", 1, (form, value, None))

    def test_the_first_name_that_is_not_free(self):
        form, same, raw = Form("A", "e"), Form("A", "other", x="text"), Form("raw_x", "e")
        self.check_both("name", "A", (form, same))
        self.check_both("name", "A", (form, form))
        self.check_both("name", "raw_x", (form, raw))
        self.check_both("name", "raw_", (Form("raw_", "e"),))
        self.check_both("name", "raw_e", (Form("raw_e", "e"),))
        self.check_both("name", "raw_x", (form, raw, same))
        self.check_both("name", "A", (form, same, raw))

    def test_names_that_look_like_raw_ones(self):
        forms = (Form("raw", "e"), Form("Raw_x", "e"), Form("rawx", "e"), Form("x_raw_", "raw_"), Form("a", "e"))
        self.assertEqual(Schema(*forms).forms, forms)
        self.assertEqual(Schema(*forms)["raw_raw_"].kin, "raw_")

    def test_names_with_other_letters_differ(self):
        forms = (Form("a", "e"), Form("A", "e"))
        self.assertEqual(Schema(*forms).forms, forms)

    def test_size(self):
        self.check_both("size", None, ())
        self.assertEqual(len(Schema(*many_forms(1)).forms), 1)
        self.assertEqual(len(Schema(*many_forms(20)).forms), 20)
        self.assertEqual(len(Schema.of(many_forms(20)).forms), 20)
        self.check_both("size", None, many_forms(21))
        self.check_both("size", None, many_forms(300))

    def test_sorts_that_no_form_has(self):
        self.check_both("sort", "b", (Form("A", "a", one="b"),))
        self.check_both("sort", "b", (Form("A", "a", one="b*"),))
        self.check_both("sort", "c", (Form("A", "a", one="a", two="text", three="c*", four="b"),))
        self.check_both("sort", "b", (Form("A", "a", one="a*", two="b"), Form("C", "c", one="d")))
        self.check_both("sort", "A", (Form("A", "a", one="A"),))
        self.check_both("sort", "raw_a", (Form("A", "a", one="raw_a"),))

    def test_sorts_that_are_too_long(self):
        fine, long = "s" * 16, "t" * 17
        for forms in ((Form("A", fine),), (Form("A", fine, one=fine),), (Form("A", fine, one=fine + "*"),),
                      (Form("A", "a", one=fine + "*"), Form("B", fine))):
            schema = Schema(*forms)
            self.assertIn(fine, schema.sorts)
            self.assertEqual(schema["raw_" + fine].name, "raw_" + fine)
            self.assertEqual(Schema.of(forms), schema)
        self.check_both("sort", long, (Form("A", long),))
        self.check_both("sort", long, (Form("A", "a", one=long),))
        self.check_both("sort", long, (Form("A", "a", one=long + "*"),))
        self.check_both("sort", long, (Form("A", "a", one=long), Form("B", long)))
        self.check_both("sort", "u" * 20, (Form("A", "a", one="u" * 20 + "*"), Form("B", "u" * 20)))

    def test_the_first_wrong_sort(self):
        long = "t" * 17
        self.check_both("sort", "b", (Form("A", "a", one="b"), Form("C", long)))
        self.check_both("sort", long, (Form("C", long, one="b"),))
        self.check_both("sort", "b", (Form("A", "a", one="b", two=long), Form("C", long)))
        self.check_both("sort", long, (Form("A", "a", one=long, two="b"), Form("C", long)))
        self.check_both("sort", long, (Form("A", "a"), Form("C", long), Form("D", "d", one="b")))

    def test_first_listed_fault_is_raised(self):
        form, wrong = Form("A", "a"), Form("B", "b", one="nothing")
        self.check_both("form", 1, (form, None, form))
        self.check_both("name", "A", (form, form, None))
        self.check_both("form", 0, (None, form, form))
        self.check_both("form", 21, (*many_forms(21), None))
        self.check_both("name", "F0", (*many_forms(21), Form("F0", "e")))
        self.check_both("size", None, (*many_forms(20), wrong))
        self.check_both("form", 1, (wrong, 7))
        self.check_both("name", "B", (wrong, wrong))
        self.check_both("sort", "nothing", (form, wrong))

    def test_the_item_is_the_very_name(self):
        name, sort = "".join(["raw", "_x"]), "".join(["so", "rt"])
        for call, wanted in ((lambda: Schema(Form(name, "a")), name), (lambda: Schema(Form("A", "a", b=sort)), sort)):
            with self.assertRaises(InvalidSchema) as caught:
                call()
            self.assertIs(caught.exception.item, wanted)

    def test_values_that_are_no_tuple(self):
        for value in (None, 1, "A", [Form("A", "a")]):
            with self.assertRaises(Exception):
                Schema.of(value)

    def test_equality(self):
        schema = Schema(*some_forms())
        for other in (schema, Schema(*some_forms()), Schema.of(some_forms()), Schema(*schema.forms)):
            self.check_equal(schema, other)

    def test_inequality(self):
        first, second = Form("A", "a", x="a", y="text"), Form("B", "a")
        schema = Schema(first, second)
        self.check_equal(schema, Schema(Form("A", "a", x="a", y="text"), Form("B", "a")))
        for forms in ((second, first), (first,), (first, second, Form("C", "a")), (first, Form("C", "a")),
                      (first, Form("B", "b")), (first, Form("B", "a", x="text")),
                      (Form("A", "a", y="text", x="a"), second), (Form("A", "a", x="a*", y="text"), second),
                      (Form("A", "a", x="a", z="text"), second), (Form("A", "a", x="a"), second)):
            self.check_unequal(schema, Schema(*forms))

    def test_a_schema_is_no_other_value(self):
        schema = Schema(Form("A", "a"))
        for label, value in [*odd_values(), ("a form", schema.forms[0]), ("forms", schema.forms), ("a text", "A"),
                             ("a tree", Tree("A"))]:
            with self.subTest(label):
                self.check_unequal(schema, value)

    def test_the_passed_values_may_change_later(self):
        forms = list(some_forms())
        schema = Schema(*forms)
        del forms[1:]
        self.assertEqual(len(schema.forms), 5)
        self.assertIn("Num", schema)
        self.assertNotIn("raw_x", schema)

    def test_other_operators(self):
        schema = Schema(Form("A", "a"))
        for call in (lambda: schema < schema, lambda: schema + schema, lambda: schema & 1, lambda: -schema):
            with self.assertRaises(TypeError):
                call()

    def test_it_is_not_iterated_over(self):
        with self.assertRaises(TypeError):
            list(Schema(Form("A", "a")))


if __name__ == "__main__":
    unittest.main()
