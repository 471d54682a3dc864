"""Rules and conditions with the patterns of their roots, as they are met where some names are bound."""

from ruleengine.conditions import Has, Inside
from ruleengine.errors import InvalidPattern
from ruleengine.patterns import Pattern


class Probe:
    """A condition where some names are bound, or a rule, which is like a condition at the node itself.

    The owner of a condition is the innermost one of the conditions with roots around it, or the rule. `wanted` is the
    pattern of the root, None for conditions that have none, and `label` a text that is the same for the same roots.
    All the other names are tuples of names that are bound around the condition. `shared` are those in its root: `old`
    those that are bound around its owner already, and `new` those that are bound by this. `free` are all on which it
    depends whether the condition holds: `outer` and `own` are those of both kinds among them.
    """

    def __init__(self, word, wanted, inner, known, fresh):
        free = _free_names(wanted, inner, known)
        self.word = word
        self.wanted = wanted
        self.label = None if wanted is None else wanted.kin + " " + wanted.text
        self.inner = inner
        self.shared = () if wanted is None else tuple([name for name in wanted.variables if name in known])
        self.old = tuple([name for name in self.shared if name not in fresh])
        self.new = tuple([name for name in self.shared if name in fresh])
        self.free = free
        self.outer = tuple([name for name in free if name not in fresh])
        self.own = tuple([name for name in free if name in fresh])


def probe_of_rule(pattern, condition):
    """Return the probe of a rule; raise InvalidPattern for the first fault in its condition."""
    return _rooted_probe("rule", pattern, condition, {}, ())


def _rooted_probe(word, pattern, where, taken, fresh):
    """Return the probe of a rule, or of a condition with a root, and with an inner condition or None.

    The dict tells what the names stand for that are bound around it; the fresh ones are bound by its owner.
    """
    inner = ()
    if where is not None:
        own = pattern.all_taken()
        names = tuple([name for name in own if name not in taken])
        inner = (_probe(pattern.schema, where, {**taken, **own}, names, {}),)
    return Probe(word, pattern, inner, taken, fresh)


def _probe(schema, condition, taken, fresh, made):
    """Return the probe of a condition; the dict of those made before has it if the same object was met before."""
    if condition not in made:
        if isinstance(condition, (Has, Inside)):
            made[condition] = _checked_probe(schema, condition, taken, fresh)
        else:
            inner = [_probe(schema, part, taken, fresh, made) for part in condition.inner]
            made[condition] = Probe(condition.WORD, None, tuple(inner), taken, fresh)
    return made[condition]


def _checked_probe(schema, condition, taken, fresh):
    """Return the probe of a condition with a root; raise InvalidPattern for its first fault."""
    pattern = Pattern(schema, condition.root, condition.kin)
    for name in pattern.variables:
        if taken.get(name, pattern.takes(name)) != pattern.takes(name):
            raise InvalidPattern("name", name)
    where = condition.inner[0] if len(condition.inner) > 0 else None
    return _rooted_probe(condition.WORD, pattern, where, taken, fresh)


def _free_names(wanted, inner, known):
    """Return the known names on which a condition with a root or None depends that has some inner ones."""
    free = {}
    if wanted is not None:
        free = {name: True for name in wanted.variables}
    for probe in inner:
        for name in probe.free:
            free[name] = True
    return tuple([name for name in free if name in known])
