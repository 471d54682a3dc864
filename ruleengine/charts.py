"""The points of a tree, and the steps that lead from one to another."""

from ruleengine.kinds import is_word
from ruleengine.layouts import Layout

DEED = "deed"
IN = "in"
OUT = "out"
# Points are numbered ascending: those of a node in this order, from three times the number of the node on.
WORDS = ("deed", "in", "out")


class Chart:
    """The points of a tree, known by their numbers, with the next ones of each."""

    def __init__(self, schema, plans, tree):
        self.layout = Layout(tree)
        self.plans = [plans[node.form] for node in self.layout.nodes]
        self.loops = self._loops()
        self.following = []
        self.setters = {}
        self.users = {}
        for number, plan in enumerate(self.plans):
            self.following.extend([self._after_deed(number), self._after_in(number), self._after_out(number)])
            if plan.sets is not None:
                self.setters[number] = self._text_in(schema, number, plan.sets)
            if plan.uses is not None:
                self.users[number] = self._text_in(schema, number, plan.uses)

    def point(self, number):
        """Return the point with a number."""
        return self.layout.paths[number // len(WORDS)], WORDS[number % len(WORDS)]

    def number_of(self, value):
        """Return the number of a point; None for any other value."""
        if not isinstance(value, tuple) or len(value) != 2 or not is_word(value[1], WORDS):
            return None
        node = self.layout.number_at(value[0])
        return None if node is None else place_of(node, value[1])

    def told_numbers(self, value):
        """Return the numbers of the points in a tuple; None for any other value."""
        if not isinstance(value, tuple):
            return None
        numbers = [self.number_of(point) for point in value]
        return None if None in numbers else numbers

    def told_points(self, numbers):
        """Return the tuple of the points with some numbers."""
        return tuple([self.point(number) for number in numbers])

    def deeds_that_set(self, variable):
        """Return the numbers of the points, ascending, at which a variable is set."""
        return [place_of(node, DEED) for node in self.setters if self.setters[node] == variable]

    def deeds_that_use(self, variable):
        """Return the numbers of the points, ascending, at which a variable is used."""
        return [place_of(node, DEED) for node in self.users if self.users[node] == variable]

    def reached(self):
        """Return a dict of all points to which a way from the beginning leads."""
        return self.spread(place_of(0, IN), [])

    def spread(self, start, avoided):
        """Return a dict of all points to which a way from a start leads, with the point before each on a shortest way.

        The points to avoid are given by their numbers.
        """
        before = {}
        is_avoided = {number: True for number in avoided}
        waiting = [start]
        done = 0
        while done < len(waiting):
            number = waiting[done]
            done += 1
            for after in self.following[number]:
                if after not in before:
                    before[after] = number
                    if after not in is_avoided:
                        waiting.append(after)
        return before

    def is_way(self, start, avoided, goals, numbers):
        """Tell if the points with some numbers are a way from a start to one of some goals."""
        if len(numbers) < 2 or numbers[0] != start or numbers[-1] not in goals:
            return False
        is_avoided = {number: True for number in avoided}
        if any([number in is_avoided for number in numbers[1:-1]]):
            return False
        return all([after in self.following[number] for number, after in zip(numbers, numbers[1:])])

    def is_closed(self, start, avoided, goals, numbers):
        """Tell if the points with some numbers are a closed set for a start that contains none of some goals."""
        members = {number: True for number in numbers}
        is_avoided = {number: True for number in avoided}
        sources = [start] + [number for number in members if number not in is_avoided]
        if any([goal in members for goal in goals]):
            return False
        return all([after in members for number in sources for after in self.following[number]])

    def _text_in(self, schema, number, slot):
        """Return the text in a slot of a node."""
        node = self.layout.nodes[number]
        texts = [part for (name, _), part in zip(schema[node.form].slots, node.parts) if name == slot]
        return texts[0]

    def _loops(self):
        """Return the number of the nearest loop above each node, None without one."""
        loops = []
        for upper in self.layout.uppers:
            if upper is None:
                loops.append(None)
            elif self.plans[upper].order == "loop":
                loops.append(upper)
            else:
                loops.append(loops[upper])
        return loops

    def _after_in(self, number):
        """Return the next points of the "in" of a node."""
        children = self.layout.child_numbers(number)
        ins = [place_of(child, IN) for child in children]
        if len(children) == 0:
            return [place_of(number, DEED)]
        if self.plans[number].order == "choice":
            return ins
        if self.plans[number].order == "loop":
            return [place_of(number, DEED), ins[0]]
        return ins[:1]

    def _after_deed(self, number):
        """Return the next points of the "deed" of a node."""
        order = self.plans[number].order
        loop = self.loops[number]
        if order in ("leave", "again"):
            if loop is None:
                return []
            return [place_of(loop, DEED)] if order == "leave" else self._after_in(loop)
        return [] if order == "stop" else [place_of(number, OUT)]

    def _after_out(self, number):
        """Return the next points of the "out" of a node."""
        upper = self.layout.uppers[number]
        if upper is None:
            return []
        order = self.plans[upper].order
        if order == "choice":
            return [place_of(upper, DEED)]
        sibling = self.layout.end_of(number)
        if sibling < self.layout.end_of(upper):
            return [place_of(sibling, IN)]
        return self._after_in(upper) if order == "loop" else [place_of(upper, DEED)]


def place_of(node, word):
    """Return the number of a point from that of its node and its word."""
    return node * len(WORDS) + WORDS.index(word)


def way_to(before, start, goal):
    """Return the numbers of the points on a way, where the one before each is known from a spread."""
    way = [goal, before[goal]]
    while way[-1] != start:
        way.append(before[way[-1]])
    return way[::-1]
