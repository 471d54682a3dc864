"""A second way of finding what the package finds: plainly, as textbooks have it, and with no regard to time.

Patterns and trees are terms here: nested tuples that begin with "var", "word", "rest", "text", "node", "item" or
"end". A row is its first item with the row behind it, or the end.
"""

from ruleengine.conditions import All, Has, Not, Some
from ruleengine.trees import Rest, Tree, Var, Word
from tests.drawn import put_in


def row_term(row):
    """The term of a row."""
    if not row:
        return ("end",)
    if isinstance(row[0], Rest):
        return term(row[0])
    return ("item", term(row[0]), row_term(row[1:]))


def term(part):
    """The term of a part of a pattern or a tree."""
    if isinstance(part, tuple):
        return row_term(part)
    if isinstance(part, str):
        return ("text", part)
    for word, kind in (("var", Var), ("word", Word), ("rest", Rest)):
        if isinstance(part, kind):
            return (word, part.name)
    return ("node", part.form, *[term(inner) for inner in part.parts])


def is_variable(one):
    return one[0] in ("var", "word", "rest")


def is_same_kind(one, other):
    """Tell if two terms have the same first level, and as many terms below it."""
    count = 2 if one[0] in ("node", "text") else 1
    return one[:count] == other[:count] and len(one) == len(other)


def below(one):
    """The terms below a term that is no variable."""
    return {"node": one[2:], "item": one[1:], "text": (), "end": ()}[one[0]]


def match(wanted, met, values):
    """The dict with which a term becomes the other one, or None; it contains the given one."""
    if is_variable(wanted):
        if wanted in values:
            return values if values[wanted] == met else None
        return {**values, wanted: met}
    if is_variable(met) or not is_same_kind(wanted, met):
        return None
    for inner, other in zip(below(wanted), below(met)):
        values = match(inner, other, values)
        if values is None:
            return None
    return values


def as_terms(binding, pattern_term):
    """A binding as a dict from variables to terms."""
    return {one: term(binding[one[1]]) for one in variables(pattern_term)}


def variables(one):
    """The variables in a term, in the order in which they occur, each once."""
    if is_variable(one):
        return [one]
    found = []
    for inner in below(one):
        found.extend(variable for variable in variables(inner) if variable not in found)
    return found


def renamed(one, prefix):
    """A term with a text before each name."""
    if is_variable(one):
        return (one[0], prefix + one[1])
    head = one[:len(one) - len(below(one))]
    return (*head, *[renamed(inner, prefix) for inner in below(one)])


def canonical(one):
    """A term whose variables are called x1, x2, .. in the order in which they occur."""
    names = {variable: (variable[0], "x" + str(number + 1)) for number, variable in enumerate(variables(one))}
    return filled(one, names)


def filled(one, values):
    """A term with terms in place of its variables."""
    if is_variable(one):
        return values.get(one, one)
    head = one[:len(one) - len(below(one))]
    return (*head, *[filled(inner, values) for inner in below(one)])


def unified(one, other):
    """The greatest common instance of two terms whose names are different already; "clash" or "ring" without one."""
    values = {}
    pairs = [(one, other)]
    while pairs:
        left, right = pairs.pop(0)
        left, right = filled(left, values), filled(right, values)
        if left == right:
            continue
        if not is_variable(left):
            left, right = right, left
        if is_variable(left):
            if left in variables(right):
                return "ring"
            values = {name: filled(what, {left: right}) for name, what in values.items()}
            values[left] = right
        elif is_same_kind(left, right):
            pairs.extend(zip(below(left), below(right)))
        else:
            return "clash"
    return canonical(filled(one, values))


def common(one, other):
    """The greatest common instance of two patterns as a term, or the reason why there is none."""
    return unified(renamed(term(one.root), "a_"), renamed(term(other.root), "b_"))


def generalized(terms):
    """The least common generalization of some terms."""
    names = {}

    def join(group):
        if all(is_same_kind(one, group[0]) for one in group) and not is_variable(group[0]):
            head = group[0][:len(group[0]) - len(below(group[0]))]
            return (*head, *[join(inner) for inner in zip(*[below(one) for one in group])])
        words = {"text": "word", "node": "var", "item": "rest", "end": "rest"}
        word = words.get(group[0][0], group[0][0])
        if group not in names:
            names[group] = (word, "x" + str(len(names) + 1))
        return names[group]

    return canonical(join(tuple(terms)))


def kin_of(schema, tree):
    return schema[tree.form].kin


def fits_under(schema, root, sort, tree, values):
    """The dict from names to terms with which a tree fits a root under a dict of this kind, or None."""
    if isinstance(root, Var) and kin_of(schema, tree) != sort:
        return None
    given = {one: values[one[1]] for one in variables(term(root)) if one[1] in values}
    found = match(term(root), term(tree), given)
    return None if found is None else {one[1]: what for one, what in found.items()}


def paths_below(tree, path):
    return [other for other in tree.each_path() if len(other) > len(path) and other[:len(path)] == path]


def paths_above(path):
    return [path[:length] for length in reversed(range(len(path)))]


def holds(schema, condition, tree, path, values):
    """Tell if a condition holds at a node under a dict from names to terms."""
    if isinstance(condition, All):
        return all(holds(schema, inner, tree, path, values) for inner in condition.inner)
    if isinstance(condition, Some):
        return any(holds(schema, inner, tree, path, values) for inner in condition.inner)
    if isinstance(condition, Not):
        return not holds(schema, condition.inner[0], tree, path, values)
    for other in paths_below(tree, path) if isinstance(condition, Has) else paths_above(path):
        found = fits_under(schema, condition.root, condition.kin, tree[other], values)
        if found is not None:
            if not condition.inner or holds(schema, condition.inner[0], tree, other, {**values, **found}):
                return True
    return False


def finds(schema, rule, tree, path):
    """Tell if a rule finds a node."""
    found = fits_under(schema, rule.root, rule.kin, tree[path], {})
    if found is None:
        return False
    return rule.condition is None or holds(schema, rule.condition, tree, path, found)


def is_proof(schema, condition, tree, path, values, is_held, proof):
    """Tell if a tuple gives grounds on which a condition holds, or refutes it."""
    if isinstance(condition, Not):
        inner = condition.inner[0]
        return proof[0] == "not" and is_proof(schema, inner, tree, path, values, not is_held, proof[1])
    if isinstance(condition, (All, Some)):
        if isinstance(condition, All) == is_held:
            told = proof[1] if proof[0] == "each" else None
            return told is not None and len(told) == len(condition.inner) and all(
                is_proof(schema, inner, tree, path, values, is_held, item) for inner,
                item in zip(condition.inner, told))
        inner = condition.inner[proof[1]]
        return proof[0] == "one" and is_proof(schema, inner, tree, path, values, is_held, proof[2])
    looked = paths_below(tree, path) if isinstance(condition, Has) else paths_above(path)
    if is_held:
        word, other, binding, inner = proof
        found = fits_under(schema, condition.root, condition.kin, tree[other], values)
        if word != "at" or other not in looked or found is None:
            return False
        if {name: term(what) for name, what in binding.items()} != found:
            return False
        if not condition.inner:
            return inner is None
        return is_proof(schema, condition.inner[0], tree, other, {**values, **found}, True, inner)
    word, rows = proof
    if word != "nowhere" or [row[0] for row in rows] != looked:
        return False
    return all(is_reason(schema, condition, tree, other, values, reason) for other, reason in rows)


def is_reason(schema, condition, tree, path, values, reason):
    """Tell if a pair tells why nothing is found at a node."""
    found = fits_under(schema, condition.root, condition.kin, tree[path], values)
    if found is None:
        return reason == ("mismatch", first_mismatch(schema, condition.root, condition.kin, tree[path], values))
    return reason[0] == "inner" and is_proof(
        schema, condition.inner[0], tree, path, {**values, **found}, False, reason[1])


def first_mismatch(schema, root, sort, tree, values):
    """The first mismatch of a root and a tree under a dict from names to terms, or None."""
    values = dict(values)

    def meet(name, what, place):
        if values.setdefault(name, what) != what:
            return place
        return None

    def node(wanted, met, path):
        if isinstance(wanted, Var):
            return meet(wanted.name, term(met), (path, None, "equal"))
        if wanted.form != met.form:
            return path, None, "form"
        start = 0
        for (slot, takes), one, other in zip(schema[met.form].slots, wanted.parts, met.parts):
            if takes == "text":
                if isinstance(one, Word):
                    wrong = meet(one.name, term(other), (path, slot, "equal"))
                else:
                    wrong = None if one == other else (path, slot, "text")
            elif takes.endswith("*"):
                wrong = row(one, other, path, slot, start)
                start += len(other)
            else:
                wrong = node(one, other, (*path, start))
                start += 1
            if wrong is not None:
                return wrong
        return None

    def row(wanted, met, path, slot, start):
        has_rest = bool(wanted) and isinstance(wanted[-1], Rest)
        count = len(wanted) - has_rest
        if len(met) < count or len(met) > count and not has_rest:
            return path, slot, "length"
        for number in range(count):
            wrong = node(wanted[number], met[number], (*path, start + number))
            if wrong is not None:
                return wrong
        return meet(wanted[-1].name, term(met[count:]), (path, slot, "equal")) if has_rest else None

    if kin_of(schema, tree) != sort and isinstance(root, Var):
        return (), None, "form"
    return node(root, tree, ())


def witnesses(schema, one, other):
    """All the trees of which one fits the first pattern and not the other one, if it is no instance of this."""
    used = set()
    for root in (one.root, other.root):
        used.update(what[1] for what in all_terms(term(root)) if what[0] == "text")
    fresh = [text for text in ("fresh" + str(number) for number in range(1000)) if text not in used]
    taken = one.all_taken()
    plain = {}
    for text, (name, takes) in zip(fresh, taken.items()):
        plain[name] = text if takes == "text" else () if takes.endswith("*") else Tree("raw_" + takes, text)
    trees = [put_in(one.root, plain)]
    more = fresh[len(taken)]
    for name, takes in taken.items():
        if takes.endswith("*"):
            trees.append(put_in(one.root, {**plain, name: (Tree("raw_" + takes[:-1], more),)}))
        elif takes != "text":
            for form in schema.forms:
                if form.kin == takes:
                    parts = [more if slot == "text" else () if slot.endswith("*") else Tree("raw_" + slot, more)
                             for _, slot in form.slots]
                    trees.append(put_in(one.root, {**plain, name: Tree(form.name, *parts)}))
    return trees


def all_terms(one):
    """A term and all the terms below it."""
    return [one] if is_variable(one) else [one] + [each for inner in below(one) for each in all_terms(inner)]
