"""Where the greedy selector comes to in trees that have a cover from the goal."""

from munchbehind.base.kept import kept_answer
from munchbehind.cover.choice import chosen
from munchbehind.match.kinds import kind_table


def work_out_met(book, careful):
    """What is met in a book and a mode."""
    table = kind_table(book)
    return Met(table, table.numbered.used, table.numbered.numbers[(book.goal,)], careful)


def met_of(book, careful):
    """The same, worked out once for each book."""
    return kept_answer(book, careful, work_out_met)


class Met:
    """The met states of a book and a mode, as pairs of the numbers of a kind and a side.

    Used tells the rules of each side in the order in which they are tried. Choices tells for each met state the pair
    of the price and the part with which the greedy selector goes on, None if it is stuck.
    """

    def __init__(self, table, used, goal_side, careful):
        self.table = table
        self.numbered = table.numbered
        self.used = used
        self.goal_side = goal_side
        self.lets = table.readies if careful else table.matches
        self.choices = {}
        self._find()

    def covered_kinds(self):
        """The list of the kinds of trees that have a cover from the goal, ascending."""
        return [kind for kind, ready in enumerate(self.table.readies) if ready >> self.goal_side & 1]

    def greedy_steps(self):
        """The list of all steps that make trees which the greedy selector covers, by met states."""
        steps = []
        for node, choice in self.choices.items():
            if choice is not None:
                below = self.numbered.below[choice[1]]
                for operator, kinds in self.table.steps[node[0]]:
                    steps.append((node, operator, tuple(zip(kinds, below))))
        return steps

    def choice(self, node):
        """The price and the part with which the greedy selector goes on in a state, None if it is stuck at its root.

        Inside a part it has nothing to choose.
        """
        kind, side = node
        if self.numbered.below[side] is not None:
            return 0, side
        way = chosen(self.used, self.numbered.below, side, self.lets[kind])
        return None if way is None else way[1:]

    def _find(self):
        waiting = [(kind, self.goal_side) for kind in self.covered_kinds()]
        while waiting:
            node = waiting.pop()
            if node in self.choices:
                continue
            self.choices[node] = self.choice(node)
            if self.choices[node] is not None:
                below = self.numbered.below[self.choices[node][1]]
                for kinds, side in zip(self.table.lows[node[0]], below):
                    waiting.extend([(kind, side) for kind in kinds])
