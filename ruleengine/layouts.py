"""Trees whose nodes are numbered."""

from ruleengine.kinds import are_numbers


class Layout:
    """The nodes of a tree, numbered in the ascending order of their paths."""

    def __init__(self, tree):
        self.paths = []
        self.nodes = []
        self.uppers = []
        waiting = [((), tree, None)]
        while waiting:
            path, node, upper = waiting.pop()
            number = len(self.paths)
            self.paths.append(path)
            self.nodes.append(node)
            self.uppers.append(upper)
            below = [(path + (at,), child, number) for at, child in enumerate(node.children)]
            waiting.extend(below[::-1])
        self.numbers = {path: number for number, path in enumerate(self.paths)}

    def number_at(self, path):
        """Return the number of the node at a path; None for any other value."""
        return self.numbers.get(path) if are_numbers(path) else None

    def end_of(self, number):
        """Return the number behind those of a node and the nodes below it."""
        return number + len(self.nodes[number])

    def above(self, number):
        """Return the numbers of the nodes above a node, from the nearest one on."""
        numbers = []
        upper = self.uppers[number]
        while upper is not None:
            numbers.append(upper)
            upper = self.uppers[upper]
        return numbers

    def child_numbers(self, number):
        """Return the numbers of the children of a node, in their order."""
        numbers = []
        child = number + 1
        while child < self.end_of(number):
            numbers.append(child)
            child = self.end_of(child)
        return numbers

    def inner_numbers(self):
        """Return the numbers of all nodes, each behind those of the nodes below it."""
        numbers = []
        waiting = [0]
        # Taken from behind, each node comes ahead of those below it, and the last one of them first.
        while waiting:
            number = waiting.pop()
            numbers.append(number)
            waiting.extend(self.child_numbers(number))
        return numbers[::-1]
