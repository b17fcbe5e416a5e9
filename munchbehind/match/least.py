"""Least trees of nodes that are made of one another."""

from heapq import heappop, heappush


class Least:
    """The least trees of nodes.

    A step is a triple (node, operator, nodes below): the operator over trees of these nodes is a tree of the node.
    """

    def __init__(self, steps):
        self.sizes = {}
        self.made_by = {}
        self._find(steps)

    def spelled_tree(self, node):
        """A tree with as few places as possible of a node that has some."""
        words = []
        waiting = [node]
        while waiting:
            _, operator, below = self.made_by[waiting.pop()]
            words.append(operator)
            waiting.extend(below[::-1])
        return tuple(words)

    def _find(self, steps):
        """Finds the nodes in the order of their sizes."""
        users = {}
        missing = [len(below) for _, _, below in steps]
        queue = []
        for at, (_, _, below) in enumerate(steps):
            for node in below:
                users.setdefault(node, []).append(at)
            if not below:
                heappush(queue, (1, at))
        while queue:
            size, at = heappop(queue)
            node = steps[at][0]
            if node in self.sizes:
                continue
            self.sizes[node] = size
            self.made_by[node] = steps[at]
            for user in users.get(node, []):
                missing[user] -= 1
                if missing[user] == 0:
                    heappush(queue, (1 + sum([self.sizes[low] for low in steps[user][2]]), user))
