"""The flow of programs: in which order the nodes of a tree are performed."""

from ruleengine.charts import DEED, IN, Chart, place_of, way_to
from ruleengine.errors import InvalidAnswer, InvalidFlow, InvalidPath, InvalidPlan, InvalidPoint, NoDeed, UnknownName
from ruleengine.forms import RAW
from ruleengine.kinds import TEXT, is_name, is_told, is_word
from ruleengine.patterns import check_tree

ORDERS = ("steps", "choice", "loop", "stop", "leave", "again")
START = ((), "in")


class Plan:
    """How the nodes of a form are performed."""

    def __init__(self, order="steps", *, sets=None, uses=None):
        if not is_word(order, ORDERS):
            raise InvalidPlan("order")
        if sets is not None and not is_name(sets):
            raise InvalidPlan("sets")
        if uses is not None and not is_name(uses):
            raise InvalidPlan("uses")
        if sets is not None and uses is not None:
            raise InvalidPlan("deed")
        self.order = order
        self.sets = sets
        self.uses = uses


class Question:
    """A start, a tuple of points to avoid, and a goal."""

    def __init__(self, start, avoid, goal):
        self.start = start
        self.avoid = avoid
        self.goal = goal

    def __eq__(self, other):
        if not isinstance(other, Question):
            return False
        return self.start == other.start and self.avoid == other.avoid and self.goal == other.goal


class Flow:
    """The plans for the forms of a schema."""

    def __init__(self, schema, plans):
        for word, plan in plans.items():
            _check_plan(schema, word, plan)
        names = [form.name for form in schema.forms] + [RAW + sort for sort in schema.sorts]
        self.schema = schema
        self._plans = {name: plans.get(name, Plan()) for name in names}

    def plan(self, name):
        """Return the plan of a form."""
        if name not in self.schema:
            raise UnknownName(name)
        return self._plans[name]

    def points(self, tree):
        """Return the tuple of all points of a tree, ascending."""
        chart = self.chart_of(tree)
        return chart.told_points(list(range(len(chart.following))))

    def nexts(self, tree, point):
        """Return the tuple of the next points of a point, ascending."""
        chart = self.chart_of(tree)
        number = _point_number(chart, point)
        return chart.told_points(chart.following[number])

    def ask(self, tree, question):
        """Return ("path", points) with a shortest way for a question, or ("closed", points) with a closed set."""
        chart = self.chart_of(tree)
        start, avoided, goal = _question_numbers(chart, question)
        before = chart.spread(start, avoided)
        if goal not in before:
            return "closed", chart.told_points([number for number in range(len(chart.following)) if number in before])
        return "path", chart.told_points(way_to(before, start, goal))

    def check(self, tree, question, answer):
        """Return the first item of an answer that is right for a question; raise InvalidAnswer for any other value."""
        chart = self.chart_of(tree)
        start, avoided, goal = _question_numbers(chart, question)
        if not is_told(answer, 2, ("path", "closed")):
            raise InvalidAnswer("form")
        numbers = chart.told_numbers(answer[1])
        if answer[0] == "path":
            is_right = numbers is not None and chart.is_way(start, avoided, [goal], numbers)
        else:
            is_right = numbers is not None and chart.is_closed(start, avoided, [goal], numbers)
        if not is_right:
            raise InvalidAnswer(answer[0])
        return answer[0]

    def to_reach(self, tree, path):
        """Return the question whether a node other than the root is reached."""
        chart = self.chart_of(tree)
        if _node_number(chart, path) == 0:
            raise InvalidPath(path)
        return Question(START, (), (path, IN))

    def to_do(self, tree, path):
        """Return the question whether a node is done."""
        _node_number(self.chart_of(tree), path)
        return Question(START, (), (path, DEED))

    def to_unset(self, tree, path):
        """Return the question whether the use at a node is maybe unset."""
        chart = self.chart_of(tree)
        node = _node_number(chart, path)
        if node not in chart.users:
            raise NoDeed(path)
        return Question(START, chart.told_points(chart.deeds_that_set(chart.users[node])), (path, DEED))

    def to_bring(self, tree, path, use):
        """Return the question whether the set at a node brings to the use at another one."""
        chart = self.chart_of(tree)
        node = _node_number(chart, path)
        other = _node_number(chart, use)
        if node not in chart.setters:
            raise NoDeed(path)
        variable = chart.setters[node]
        if chart.users.get(other) != variable:
            raise NoDeed(use)
        return Question((path, DEED), chart.told_points(chart.deeds_that_set(variable)), (use, DEED))

    def unreached(self, tree):
        """Yield the paths of the nodes that are not reached, ascending."""
        chart = self.chart_of(tree)
        reached = chart.reached()
        for node, path in enumerate(chart.layout.paths):
            if node > 0 and place_of(node, IN) not in reached:
                yield path

    def unset_uses(self, tree):
        """Yield the paths of the uses that are maybe unset, ascending."""
        chart = self.chart_of(tree)
        spreads = {}
        for variable in chart.users.values():
            if variable not in spreads:
                spreads[variable] = chart.spread(place_of(0, IN), chart.deeds_that_set(variable))
        for node, variable in chart.users.items():
            if place_of(node, DEED) in spreads[variable]:
                yield chart.layout.paths[node]

    def idle_sets(self, tree):
        """Yield the paths of the idle sets, ascending."""
        chart = self.chart_of(tree)
        reached = chart.reached()
        for node, variable in chart.setters.items():
            deed = place_of(node, DEED)
            if deed in reached:
                spread = chart.spread(deed, chart.deeds_that_set(variable))
                if not any([use in spread for use in chart.deeds_that_use(variable)]):
                    yield chart.layout.paths[node]

    def chart_of(self, tree):
        """Return the chart of a tree; raise WrongTree."""
        check_tree(self.schema, tree)
        return Chart(self.schema, self._plans, tree)


def _check_plan(schema, word, plan):
    """Raise InvalidFlow if a value is no name of a form, or another one is no plan for it."""
    if word not in schema:
        raise InvalidFlow("form", word)
    if not isinstance(plan, Plan):
        raise InvalidFlow("plan", word)
    slots = [None] + [slot for slot, takes in schema[word].slots if takes == TEXT]
    if plan.sets not in slots or plan.uses not in slots:
        raise InvalidFlow("slot", word)


def _point_number(chart, point):
    """Return the number of a point; raise InvalidPoint for any other value."""
    number = chart.number_of(point)
    if number is None:
        raise InvalidPoint(point)
    return number


def _question_numbers(chart, question):
    """Return the numbers of the start, of the points to avoid, and of the goal."""
    start = _point_number(chart, question.start)
    if not isinstance(question.avoid, tuple):
        raise InvalidPoint(question.avoid)
    avoided = [_point_number(chart, point) for point in question.avoid]
    return start, avoided, _point_number(chart, question.goal)


def _node_number(chart, path):
    """Return the number of the node at a path; raise InvalidPath for any other value."""
    node = chart.layout.number_at(path)
    if node is None:
        raise InvalidPath(path)
    return node
