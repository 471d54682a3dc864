"""Trees that fit one pattern, and of which one shows that it is no instance of another pattern."""

from ruleengine.forms import RAW
from ruleengine.kinds import ROW_SIGN, TEXT, sort_taken
from ruleengine.shapes import replaced
from ruleengine.trees import Like, Tree


def each_witness(schema, one, other, taken):
    """Yield trees that fit the first root; one of them does not fit the other root, if the first is no instance of it.

    The dict tells what the variables of the first root stand for. Each place at which the two roots differ shows in
    the plain tree, or in the one in which the variable at this place is replaced by something else.
    """
    fresh = fresh_texts([one, other], len(taken) + 1)
    plain = {}
    for name, text in zip(list(taken), fresh):
        plain[name] = _plain_thing(taken[name], text)
    yield replaced(one, plain)
    for name, takes in taken.items():
        if takes.endswith(ROW_SIGN):
            yield replaced(one, {**plain, name: (raw_leaf(sort_taken(takes), fresh[-1]),)})
    for name, takes in taken.items():
        if takes != TEXT and not takes.endswith(ROW_SIGN):
            yield replaced(one, {**plain, name: _declared_node(schema, takes, fresh[-1])})


def fresh_texts(roots, many):
    """Return so many different texts that are none of the texts in some roots."""
    used = {}
    waiting = list(roots)
    while waiting:
        part = waiting.pop()
        if isinstance(part, str):
            used[part] = True
        elif isinstance(part, tuple):
            waiting.extend(list(part))
        elif isinstance(part, (Like, Tree)):
            waiting.extend(list(part.parts))
    # Among so many numbers there are enough that are not used.
    texts = [str(number) for number in range(len(used) + many)]
    return [text for text in texts if text not in used][:many]


def _plain_thing(takes, text):
    """Return the simplest thing for which a variable can stand."""
    if takes == TEXT:
        return text
    if takes.endswith(ROW_SIGN):
        return ()
    return raw_leaf(takes, text)


def raw_leaf(sort, text):
    """Return a node of the raw form of a sort."""
    return Tree(RAW + sort, text)


def _declared_node(schema, sort, text):
    """Return a node of a declared form of a sort, with raw leaves below it."""
    forms = [form for form in schema.forms if form.kin == sort]
    parts = [_plain_thing(takes, text) for _, takes in forms[0].slots]
    return Tree(forms[0].name, *parts)
