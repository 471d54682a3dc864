"""Drawn trees, patterns and conditions for tests of facts. The same seed draws the same ones."""

from ruleengine.conditions import All, Has, Inside, Not, Some
from ruleengine.forms import Form, Schema
from ruleengine.patterns import Pattern
from ruleengine.trees import Like, Rest, Tree, Var, Word

SCHEMA = Schema(
    Form("One", "expr"),
    Form("Num", "expr", value="text"),
    Form("Neg", "expr", of="expr"),
    Form("Add", "expr", left="expr", right="expr"),
    Form("Call", "expr", what="text", args="expr*"),
    Form("Print", "stmt", values="expr*", label="text"),
    Form("Seq", "stmt", items="stmt*", last="expr"),
)
TEXTS = ("a", "b", "x1")
# Names for each thing that a variable can stand for.
NAMES = {"text": ("u", "v"), "expr": ("x", "y", "z"), "stmt": ("s", "t"), "expr*": ("r", "q"), "stmt*": ("m", "n")}


def draw_form(random, sort, levels):
    """A form of a sort, sometimes a raw one; one without nodes below it if there are no levels left."""
    forms = [form for form in SCHEMA.forms if form.kin == sort]
    if levels <= 1:
        forms = [form for form in forms if all(takes == "text" for _, takes in form.slots)]
    if not forms or random.randrange(8) == 0:
        return SCHEMA["raw_" + sort]
    return random.choice(forms)


def draw_tree(random, sort="expr", levels=4):
    """A tree of a sort with at most so many levels."""
    form = draw_form(random, sort, levels)
    parts = []
    for _, takes in form.slots:
        if takes == "text":
            parts.append(random.choice(TEXTS))
        elif takes.endswith("*"):
            parts.append(tuple(draw_tree(random, takes[:-1], levels - 1) for _ in range(random.randrange(3))))
        else:
            parts.append(draw_tree(random, takes, levels - 1))
    return Tree(form.name, *parts)


def draw_node(random, sort="expr", levels=3, names=NAMES):
    """A root of a pattern, or a node or Var below it."""
    if levels <= 1 or random.randrange(4) == 0:
        if random.randrange(4) > 0:
            return Var(random.choice(names[sort]))
        return draw_tree(random, sort, 1)
    form = draw_form(random, sort, levels)
    parts = []
    for _, takes in form.slots:
        if takes == "text":
            parts.append(random.choice([Word(name) for name in names["text"]] + list(TEXTS)))
        elif takes.endswith("*"):
            row = [draw_node(random, takes[:-1], levels - 1, names) for _ in range(random.randrange(3))]
            if random.randrange(2):
                row.append(Rest(random.choice(names[takes])))
            parts.append(tuple(row))
        else:
            parts.append(draw_node(random, takes, levels - 1, names))
    return Like(form.name, *parts)


def draw_pattern(random, sort="expr", levels=3):
    """A pattern of a sort."""
    return Pattern(SCHEMA, draw_node(random, sort, levels), sort)


def draw_sum(random, levels, names):
    """A root with few forms and names, so that rings are met."""
    if levels <= 1 or random.randrange(5) == 0:
        return Var(random.choice(names))
    if random.randrange(10) == 0:
        return Like("Neg", draw_sum(random, levels - 1, names))
    if random.randrange(6) == 0:
        row = [draw_sum(random, levels - 1, names) for _ in range(random.randrange(2))]
        return Like("Call", "a", (*row, Rest(random.choice(("r", "q")))))
    return Like("Add", draw_sum(random, levels - 1, names), draw_sum(random, levels - 1, names))


def draw_values(random, pattern, make):
    """A dict of drawn things for the variables of a pattern; `make` draws a node of a sort."""
    values = {}
    for name, takes in pattern.all_taken().items():
        if takes == "text":
            values[name] = random.choice(TEXTS)
        elif takes.endswith("*"):
            values[name] = tuple(make(takes[:-1]) for _ in range(random.randrange(3)))
        else:
            values[name] = make(takes)
    return values


def put_in(part, values):
    """A part of a pattern with things in place of its variables."""
    if isinstance(part, (Var, Word, Rest)):
        return values[part.name]
    if isinstance(part, str):
        return part
    if isinstance(part, tuple):
        return sum([put_in(item, values) if isinstance(item, Rest) else (put_in(item, values),) for item in part], ())
    parts = [put_in(inner, values) for inner in part.parts]
    flat = [item for inner in parts for item in (inner if isinstance(inner, tuple) else (inner,))]
    if all(isinstance(item, (str, Tree)) for item in flat):
        return Tree(part.form, *parts)
    return Like(part.form, *parts)


def draw_fitting(random, pattern, levels=2):
    """A tree that fits a pattern."""
    return put_in(pattern.root, draw_values(random, pattern, lambda sort: draw_tree(random, sort, levels)))


def draw_special(random, pattern):
    """A pattern that is an instance of a pattern."""
    def make(sort):
        if random.randrange(2):
            return Var(random.choice(NAMES[sort]))
        return draw_node(random, sort, 2)
    return Pattern(SCHEMA, put_in(pattern.root, draw_values(random, pattern, make)), pattern.kin)


def draw_condition(random, nesting=2, parts=3):
    """A condition of at most this nesting."""
    kind = random.choice(("has", "inside", "has", "inside", "all", "some", "not") if nesting else ("all", "some"))
    if kind in ("has", "inside"):
        sort = random.choice(("expr", "expr", "stmt"))
        root = draw_node(random, sort, 2)
        where = draw_condition(random, nesting - 1, parts - 1) if parts and random.randrange(2) else None
        given = sort if isinstance(root, Var) else None
        return (Has if kind == "has" else Inside)(root, where, sort=given)
    if kind == "not":
        return Not(draw_condition(random, nesting, parts - 1)) if parts else Not(All())
    inner = [draw_condition(random, nesting, parts - 1) for _ in range(random.randrange(min(parts, 3) + 1))]
    return All(*inner) if kind == "all" else Some(*inner)
