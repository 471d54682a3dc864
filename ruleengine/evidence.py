"""Grounds on which conditions hold, refutations of conditions that do not hold, and checks of both.

Each function takes a scene, the probe of a condition, the number of a node, and a binding, as scenes have it.
"""

from ruleengine.bits import is_in
from ruleengine.kinds import are_numbers, is_number, is_same, is_told
from ruleengine.trees import Tree


def things_in(entry):
    """Return a binding as it is told outside: a dict from names to what they stand for."""
    return {name: entry[name][1] for name in entry}


def evidence(scene, probe, number, bound, is_held):
    """Return the grounds on which a condition holds, if it holds, and the refutation of it otherwise."""
    if probe.word in ("has", "inside"):
        if is_held:
            return _found(scene, probe, number, bound)
        return _not_found(scene, probe, number, bound)
    if probe.word == "not":
        return "not", evidence(scene, probe.inner[0], number, bound, not is_held)
    if (probe.word == "all") == is_held:
        return "each", tuple([evidence(scene, inner, number, bound, is_held) for inner in probe.inner])
    spot = scene.first_inner(probe, number, bound, is_held)
    return "one", spot, evidence(scene, probe.inner[spot], number, bound, is_held)


def is_evidence(scene, probe, number, bound, is_held, value):
    """Tell if a value of any kind gives grounds on which a condition holds, or a refutation of it."""
    if probe.word in ("has", "inside"):
        if is_held:
            return _is_found(scene, probe, number, bound, value)
        return _is_not_found(scene, probe, number, bound, value)
    if probe.word == "not":
        return is_told(value, 2, ("not",)) and is_evidence(scene, probe.inner[0], number, bound, not is_held, value[1])
    if (probe.word == "all") == is_held:
        return is_told(value, 2, ("each",)) and _are_all(scene, probe, number, bound, is_held, value[1])
    if not is_told(value, 3, ("one",)) or not is_number(value[1]) or not 0 <= value[1] < len(probe.inner):
        return False
    return is_evidence(scene, probe.inner[value[1]], number, bound, is_held, value[2])


def is_binding(value, wanted):
    """Tell if a value of any kind is a dict from the names of a binding to what they stand for in it."""
    if not isinstance(value, dict) or len(value) != len(wanted):
        return False
    return all([name in value and _is_thing(value[name], wanted[name][1]) for name in wanted])


def _found(scene, probe, number, bound):
    """Return the grounds on which Has or Inside holds."""
    place = scene.first_place(probe, number, bound)
    inner = None
    if len(probe.inner) > 0:
        inner = evidence(scene, probe.inner[0], place, scene.larger(probe, place, bound), True)
    return "at", scene.layout.paths[place], things_in(scene.entry(probe, place)), inner


def _is_found(scene, probe, number, bound, value):
    """Tell if a value of any kind gives grounds on which Has or Inside holds."""
    if not is_told(value, 4, ("at",)):
        return False
    place = scene.layout.number_at(value[1])
    if place not in scene.places(probe, number) or not is_in(place, scene.fitting(probe, bound)):
        return False
    if not is_binding(value[2], scene.entry(probe, place)):
        return False
    if len(probe.inner) == 0:
        return value[3] is None
    return is_evidence(scene, probe.inner[0], place, scene.larger(probe, place, bound), True, value[3])


def _not_found(scene, probe, number, bound):
    """Return the refutation of Has or Inside."""
    fitting = scene.fitting(probe, bound)
    rows = []
    for place in scene.places(probe, number):
        if is_in(place, fitting):
            larger = scene.larger(probe, place, bound)
            reason = ("inner", evidence(scene, probe.inner[0], place, larger, False))
        else:
            reason = ("mismatch", scene.misfit(probe, place, bound))
        rows.append((scene.layout.paths[place], reason))
    return "nowhere", tuple(rows)


def _is_not_found(scene, probe, number, bound, value):
    """Tell if a value of any kind is a refutation of Has or Inside."""
    places = scene.places(probe, number)
    if not is_told(value, 2, ("nowhere",)) or not _has_items(value[1], len(places)):
        return False
    fitting = scene.fitting(probe, bound)
    for place, row in zip(places, value[1]):
        if not _has_items(row, 2) or not are_numbers(row[0]) or row[0] != scene.layout.paths[place]:
            return False
        if not _is_reason(scene, probe, place, bound, is_in(place, fitting), row[1]):
            return False
    return True


def _is_reason(scene, probe, place, bound, fits, value):
    """Tell if a value of any kind is the reason why Has or Inside does not find what it looks for at a node."""
    if not fits:
        return is_same(value, ("mismatch", scene.misfit(probe, place, bound)))
    if len(probe.inner) == 0 or not is_told(value, 2, ("inner",)):
        return False
    return is_evidence(scene, probe.inner[0], place, scene.larger(probe, place, bound), False, value[1])


def _are_all(scene, probe, number, bound, is_held, value):
    """Tell if a value of any kind is a tuple of grounds for all inner conditions, or of refutations."""
    if not _has_items(value, len(probe.inner)):
        return False
    for inner, item in zip(probe.inner, value):
        if not is_evidence(scene, inner, number, bound, is_held, item):
            return False
    return True


def _has_items(value, many):
    """Tell if a value is a tuple of so many items."""
    return isinstance(value, tuple) and len(value) == many


def _is_thing(value, wanted):
    """Tell if a value of any kind is a tree, a text or a tuple of trees that is wanted."""
    if isinstance(wanted, tuple):
        return _has_items(value, len(wanted)) and all([_is_thing(item, tree) for item, tree in zip(value, wanted)])
    if isinstance(wanted, Tree):
        return isinstance(value, Tree) and value == wanted
    return isinstance(value, str) and value == wanted
