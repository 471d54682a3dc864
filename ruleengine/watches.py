"""Trees in which guards are judged, with the grounds on which they hold, and refutations of those that do not.

Each method takes a guard, the number of a node, and a dict from names to what they stand for there.
"""

from ruleengine.charts import DEED, IN, place_of, way_to
from ruleengine.kinds import is_number, is_same, is_told


class Watch:
    """The chart of a tree, with what was found out about guards in it so far."""

    def __init__(self, chart):
        self.chart = chart
        self._spreads = {}
        self._aims = {}

    def holds(self, guard, node, things):
        """Tell if a guard holds."""
        if guard.WORD == "opposite":
            return not self.holds(guard.inner[0], node, things)
        if guard.WORD in ("both", "either"):
            # The second one counts if the first one does not decide.
            if self.holds(guard.inner[0], node, things) == (guard.WORD == "either"):
                return guard.WORD == "either"
            return self.holds(guard.inner[1], node, things)
        return _is_root(guard, node) or self._aim(guard, node, things) is not None

    def evidence(self, guard, node, things, is_held):
        """Return the grounds on which a guard holds, if it holds, and the refutation of it otherwise."""
        if guard.WORD == "opposite":
            return "not", self.evidence(guard.inner[0], node, things, not is_held)
        if guard.WORD in ("both", "either"):
            if (guard.WORD == "both") == is_held:
                first = self.evidence(guard.inner[0], node, things, is_held)
                return "each", first, self.evidence(guard.inner[1], node, things, is_held)
            spot = 0 if self.holds(guard.inner[0], node, things) == is_held else 1
            return "one", spot, self.evidence(guard.inner[spot], node, things, is_held)
        if _is_root(guard, node):
            return ("root",)
        before = self._spread(guard, node, things)
        if is_held:
            way = way_to(before, _start(guard, node), self._aim(guard, node, things))
            return "path", self.chart.told_points(way)
        closed = [number for number in range(len(self.chart.following)) if number in before]
        return "closed", self.chart.told_points(closed)

    def is_evidence(self, guard, node, things, is_held, value):
        """Tell if a value of any kind gives grounds on which a guard holds, or a refutation of it."""
        if guard.WORD == "opposite":
            return is_told(value, 2, ("not",)) and self.is_evidence(guard.inner[0], node, things, not is_held, value[1])
        if guard.WORD in ("both", "either"):
            if (guard.WORD == "both") == is_held:
                if not is_told(value, 3, ("each",)):
                    return False
                first, second = guard.inner
                if not self.is_evidence(first, node, things, is_held, value[1]):
                    return False
                return self.is_evidence(second, node, things, is_held, value[2])
            if not is_told(value, 3, ("one",)) or not is_number(value[1]) or not 0 <= value[1] <= 1:
                return False
            return self.is_evidence(guard.inner[value[1]], node, things, is_held, value[2])
        if _is_root(guard, node):
            return is_held and is_same(value, ("root",))
        return self._is_answer(guard, node, things, is_held, value)

    def _is_answer(self, guard, node, things, is_held, value):
        """Tell if a value of any kind gives a way for Reached, Unset or Later, or a closed set."""
        if not is_told(value, 2, ("path",) if is_held else ("closed",)):
            return False
        numbers = self.chart.told_numbers(value[1])
        if numbers is None:
            return False
        start = _start(guard, node)
        avoided = self._avoided(guard, things)
        goals = self._goals(guard, node, things)
        if is_held:
            return self.chart.is_way(start, avoided, goals, numbers)
        return self.chart.is_closed(start, avoided, goals, numbers)

    def _avoided(self, guard, things):
        """Return the numbers of the points that the ways for a guard avoid."""
        return [] if guard.WORD == "reached" else self.chart.deeds_that_set(things[guard.word])

    def _goals(self, guard, node, things):
        """Return the numbers of the points to one of which a way for a guard leads."""
        if guard.WORD == "later":
            return self.chart.deeds_that_use(things[guard.word])
        return [place_of(node, IN if guard.WORD == "reached" else DEED)]

    def _spread(self, guard, node, things):
        """Return a dict of all points to which the ways for a guard lead, with the point before each."""
        start = _start(guard, node)
        avoided = self._avoided(guard, things)
        # Guards that avoid nothing look alike, whatever their variables are.
        at = (start, things[guard.word] if len(avoided) > 0 else None)
        if at not in self._spreads:
            self._spreads[at] = self.chart.spread(start, avoided)
        return self._spreads[at]

    def _aim(self, guard, node, things):
        """Return the number of the first goal to which a way for a guard leads, or None."""
        at = (guard.WORD, node, None if guard.WORD == "reached" else things[guard.word])
        if at not in self._aims:
            goals = self._goals(guard, node, things)
            met = []
            if len(goals) > 0:
                before = self._spread(guard, node, things)
                met = [goal for goal in goals if goal in before]
            self._aims[at] = met[0] if len(met) > 0 else None
        return self._aims[at]


def _is_root(guard, node):
    """Tell if a guard asks if the root is reached, to which no way leads."""
    return guard.WORD == "reached" and node == 0


def _start(guard, node):
    """Return the number of the point at which the ways for a guard begin."""
    # The first of all points is the "in" of the root.
    return place_of(node, DEED) if guard.WORD == "later" else place_of(0, IN)
