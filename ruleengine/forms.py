"""Forms of nodes, and the schemas that have them."""

from ruleengine.errors import InvalidForm, InvalidSchema, UnknownName
from ruleengine.kinds import TEXT, is_name, is_sort, is_taken, sort_taken

RAW = "raw_"
MAX_SORT = 16


class Form:
    """A form of nodes: a name, a sort, and slots in an order."""

    MAX_SLOTS = 5

    def __init__(self, name, sort, **slots):
        if not is_name(name):
            raise InvalidForm("name")
        if not is_sort(sort):
            raise InvalidForm("sort")
        self.name = name
        self.kin = sort
        self.slots = _checked_slots(slots)

    @classmethod
    def of(cls, name, sort, slots):
        """Create a form whose slots are given as a dict."""
        # The slots are set afterwards, because as keywords they could be called like a parameter.
        form = cls(name, sort)
        form.slots = _checked_slots(slots)
        return form


class Schema:
    """Forms with different names, and a raw form for each of their sorts."""

    MAX_FORMS = 20

    def __init__(self, *forms):
        _check_forms(forms)
        sorts = _sorts_in(forms)
        _check_sorts(forms, sorts)
        self.forms = forms
        self.sorts = sorts
        raw = [Form(RAW + sort, sort, text=TEXT) for sort in sorts]
        self._table = {form.name: form for form in [*forms, *raw]}
        self._rows = tuple([(form.name, form.kin, form.slots) for form in forms])

    @classmethod
    def of(cls, forms):
        """Create a schema whose forms are given as a tuple."""
        if not isinstance(forms, tuple):
            raise InvalidSchema("form")
        return cls(*forms)

    def __eq__(self, other):
        return isinstance(other, Schema) and self._rows == other._rows

    def __contains__(self, x):
        return isinstance(x, str) and x in self._table

    def __getitem__(self, at):
        if not isinstance(at, str) or at not in self._table:
            raise UnknownName(at)
        return self._table[at]

    def __iter__(self):
        raise TypeError("a schema is not iterated over")


def _checked_slots(slots):
    """Return the pairs of a dict of slots; raise InvalidForm if one of them is not right."""
    for slot, takes in slots.items():
        if not is_name(slot) or not is_taken(takes):
            raise InvalidForm(slot)
    if len(slots) > Form.MAX_SLOTS:
        raise InvalidForm("size")
    return tuple(slots.items())


def _check_forms(forms):
    """Raise InvalidSchema for the first value that is not a form with a free name, or for their number."""
    names = {}
    for spot, form in enumerate(forms):
        if not isinstance(form, Form):
            raise InvalidSchema("form", spot)
        if form.name.startswith(RAW) or form.name in names:
            raise InvalidSchema("name", form.name)
        names[form.name] = True
    if not 1 <= len(forms) <= Schema.MAX_FORMS:
        raise InvalidSchema("size")


def _check_sorts(forms, sorts):
    """Raise InvalidSchema for the first sort that no form has, or that is too long for a raw form."""
    known = [form.kin for form in forms]
    for sort in sorts:
        if sort not in known or len(sort) > MAX_SORT:
            raise InvalidSchema("sort", sort)


def _sorts_in(forms):
    """Return the sorts of forms and their slots, each once, in the order in which they occur."""
    sorts = []
    for form in forms:
        taken = [sort_taken(takes) for _, takes in form.slots if takes != TEXT]
        for sort in [form.kin, *taken]:
            if sort not in sorts:
                sorts.append(sort)
    return tuple(sorts)
