"""Tests of the class Form in ruleengine.forms."""

import unittest

from ruleengine.errors import InvalidForm
from ruleengine.forms import Form
from tests.helpers import Case, names, not_names, odd_values

TAKEN = ["text", "expr", "expr*", "a", "a*", "s" * 20, "s" * 20 + "*", "s" * 17, "raw_x", "raw_x*", "texts", "Text*"]
NOT_TAKEN = ["", "*", "**", "text*", "text**", "expr**", "*expr", "expr *", "expr* ", " expr", "expr+", "s" * 21,
             "s" * 21 + "*", "1a", "1a*", "_a", "a\n", "a*\n", "a b", "$a", "s" * 20000]


def with_slots(many, takes="expr"):
    """A dict of so many slots."""
    return {"s" + str(number): takes for number in range(many)}


class FormTest(Case):

    def test_properties(self):
        form = Form("Call", "expr", what="text", first="expr", args="expr*")
        self.assertEqual(form.name, "Call")
        self.assertEqual(form.kin, "expr")
        self.assertEqual(form.slots, (("what", "text"), ("first", "expr"), ("args", "expr*")))
        self.assertIs(type(form.slots), tuple)
        self.assertEqual([type(pair) for pair in form.slots], [tuple] * 3)

    def test_without_slots(self):
        self.assertEqual(Form("One", "expr").slots, ())
        self.assertEqual(Form.of("One", "expr", {}).slots, ())

    def test_slots_keep_their_order(self):
        self.assertEqual(Form("A", "e", b="text", a="e").slots, (("b", "text"), ("a", "e")))
        self.assertEqual(Form("A", "e", a="e", b="text").slots, (("a", "e"), ("b", "text")))
        self.assertEqual(Form.of("A", "e", {"b": "text", "a": "e"}).slots, (("b", "text"), ("a", "e")))
        self.assertEqual(Form.of("A", "e", {"a": "e", "b": "text"}).slots, (("a", "e"), ("b", "text")))

    def test_of_takes_a_dict(self):
        form = Form.of("Call", "expr", {"what": "text", "args": "expr*"})
        self.assertIs(type(form), Form)
        self.assertEqual((form.name, form.kin), ("Call", "expr"))
        self.assertEqual(form.slots, (("what", "text"), ("args", "expr*")))
        self.assertEqual(form.MAX_SLOTS, 5)

    def test_arguments_by_name(self):
        form = Form(left="expr", sort="expr", name="Neg", right="text")
        self.assertEqual((form.name, form.kin, form.slots), ("Neg", "expr", (("left", "expr"), ("right", "text"))))
        form = Form.of(slots={"left": "expr"}, sort="expr", name="Neg")
        self.assertEqual((form.name, form.kin, form.slots), ("Neg", "expr", (("left", "expr"),)))
        form = Form("Neg", sort="expr")
        self.assertEqual((form.name, form.kin, form.slots), ("Neg", "expr", ()))

    def test_slots_with_names_of_properties(self):
        slots = {"slots": "text", "kin": "e", "text": "text", "part": "e", "form": "e*"}
        self.assertEqual(Form("A", "e", **slots).slots, tuple(slots.items()))
        self.assertEqual(Form.of("A", "e", slots).slots, tuple(slots.items()))

    def test_class_value(self):
        self.assertEqual(Form.MAX_SLOTS, 5)
        self.assertEqual(Form("A", "e").MAX_SLOTS, 5)

    def test_names(self):
        for name in names():
            with self.subTest(name):
                self.assertEqual(Form(name, "e").name, name)
                self.assertEqual(Form.of(name, "e", {}).name, name)

    def test_wrong_names(self):
        for label, name in not_names():
            with self.subTest(label):
                self.check_raises(InvalidForm, {"part": "name"}, lambda: Form(name, "e"))
                self.check_raises(InvalidForm, {"part": "name"}, lambda: Form.of(name, "e", {}))

    def test_sorts(self):
        for sort in names():
            if sort != "text":
                with self.subTest(sort):
                    self.assertEqual(Form("A", sort).kin, sort)
                    self.assertEqual(Form.of("A", sort, {}).kin, sort)

    def test_wrong_sorts(self):
        for label, sort in [*not_names(), ("text", "text"), ("a row", "e*")]:
            with self.subTest(label):
                self.check_raises(InvalidForm, {"part": "sort"}, lambda: Form("A", sort))
                self.check_raises(InvalidForm, {"part": "sort"}, lambda: Form.of("A", sort, {}))

    def test_slot_names(self):
        for slot in names():
            with self.subTest(slot):
                self.assertEqual(Form("A", "e", **{slot: "e"}).slots, ((slot, "e"),))
                self.assertEqual(Form.of("A", "e", {slot: "e"}).slots, ((slot, "e"),))

    def test_wrong_slot_names(self):
        for label, slot in not_names():
            if isinstance(slot, str):
                with self.subTest(label):
                    self.check_raises(InvalidForm, {"part": slot}, lambda: Form("A", "e", **{slot: "e"}))
                    self.check_raises(InvalidForm, {"part": slot}, lambda: Form.of("A", "e", {slot: "e"}))

    def test_what_slots_take(self):
        for takes in TAKEN:
            with self.subTest(takes):
                self.assertEqual(Form("A", "e", one=takes).slots, (("one", takes),))
                self.assertEqual(Form.of("A", "e", {"one": takes}).slots, (("one", takes),))

    def test_what_slots_do_not_take(self):
        for label, takes in [*odd_values(), *[(text[:30], text) for text in NOT_TAKEN]]:
            with self.subTest(label):
                self.check_raises(InvalidForm, {"part": "one"}, lambda: Form("A", "e", one=takes))
                self.check_raises(InvalidForm, {"part": "one"}, lambda: Form.of("A", "e", {"one": takes}))

    def test_first_wrong_slot_is_told(self):
        cases = [
            ({"a": "text", "b": "1", "c": "2"}, "b"),
            ({"a": "text", "1": "e", "b": "1"}, "1"),
            ({"a": "text", "b": None, "1": "e"}, "b"),
            ({"x" * 21: "e", "b": "text*"}, "x" * 21),
            ({"a": "e", "b": "e", "c": "e", "d": "e", "f": True}, "f"),
        ]
        for slots, part in cases:
            with self.subTest(part):
                self.check_raises(InvalidForm, {"part": part}, lambda: Form("A", "e", **slots))
                self.check_raises(InvalidForm, {"part": part}, lambda: Form.of("A", "e", slots))

    def test_size(self):
        for takes in ("text", "e", "e*"):
            slots = with_slots(5, takes)
            self.assertEqual(Form("A", "e", **slots).slots, tuple(slots.items()))
            self.assertEqual(Form.of("A", "e", slots).slots, tuple(slots.items()))
            for many in (6, 7, 300):
                slots = with_slots(many, takes)
                self.check_raises(InvalidForm, {"part": "size"}, lambda: Form("A", "e", **slots))
                self.check_raises(InvalidForm, {"part": "size"}, lambda: Form.of("A", "e", slots))

    def test_first_listed_fault_is_raised(self):
        sixth_wrong = {**with_slots(5), "last": "text*"}
        cases = [
            ("1", "text", sixth_wrong, "name"),
            (None, "e", {"1": "e"}, "name"),
            ("A", "e", with_slots(6), "size"),
            ("1", "e", with_slots(6), "name"),
            ("A", "text", {"1": "e"}, "sort"),
            ("A", ["e"], with_slots(6), "sort"),
            ("A", "e", sixth_wrong, "last"),
        ]
        for name, sort, slots, part in cases:
            with self.subTest(part):
                self.check_raises(InvalidForm, {"part": part}, lambda: Form(name, sort, **slots))
                self.check_raises(InvalidForm, {"part": part}, lambda: Form.of(name, sort, slots))

    def test_the_dict_may_change_later(self):
        slots = {"a": "text", "b": "e"}
        form, other = Form.of("A", "e", slots), Form("A", "e", **slots)
        slots["a"] = "e*"
        slots["c"] = "e"
        del slots["b"]
        self.assertEqual(form.slots, (("a", "text"), ("b", "e")))
        self.assertEqual(other.slots, (("a", "text"), ("b", "e")))

    def test_the_dict_is_not_changed(self):
        for slots in ({"b": "text", "a": "e*"}, {"b": "text", "1": "e"}, with_slots(6)):
            before = list(slots.items())
            try:
                Form.of("A", "e", slots)
            except InvalidForm:
                pass
            self.assertEqual(list(slots.items()), before)

    def test_a_form_is_equal_to_itself_only(self):
        form = Form("A", "e", one="text")
        self.check_equal(form, form)
        for other in (Form("A", "e", one="text"), Form.of("A", "e", {"one": "text"}), "A", None, ("A", "e")):
            self.check_unequal(form, other)

    def test_other_operators(self):
        form = Form("A", "e")
        for call in (lambda: form < form, lambda: form + form, lambda: form["name"], lambda: form & 1):
            with self.assertRaises(TypeError):
                call()


if __name__ == "__main__":
    unittest.main()
