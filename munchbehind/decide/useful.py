"""The useful pair states of a book and a mode, and their moves, by numbers."""

from munchbehind.errors import TooMany
from munchbehind.match.least import Least


class Useful:
    """The useful pair states, numbered ascending; TooMany if there are more than the most that are let.

    Steps tells the moves by states, ascending: tuples (operator, numbers of the states below, price, other).
    """

    def __init__(self, met, most):
        self.met = met
        self.least = Least(met.greedy_steps())
        self.found = sorted(self._find(most))
        self._numbers = {state: at for at, state in enumerate(self.found)}
        self.steps = [sorted(self._steps_of(state)) for state in self.found]
        goal = met.goal_side
        self.first_ones = [at for at, state in enumerate(self.found) if state[1] == goal and state[2] == goal]
        self.spelled = tuple([self.spelled_state(state) for state in self.found])
        self.numbers = {state: at for at, state in enumerate(self.spelled)}

    def spelled_state(self, state):
        """A pair state by its numbers of a kind and two sides."""
        kind, side, other = state
        sides = self.met.numbered.spelled
        return self.met.table.spelled[kind], sides[side], sides[other]

    def least_tree(self, at):
        """A tree of the state with a number with as few places as possible."""
        return self.least.spelled_tree(self.found[at][:2])

    def _find(self, most):
        """Finds all useful pair states: a list of triples of numbers."""
        goal = self.met.goal_side
        found = {}
        waiting = [(kind, goal, goal) for kind in self.met.covered_kinds() if (kind, goal) in self.least.sizes]
        while waiting:
            state = waiting.pop()
            if state in found:
                continue
            if len(found) == most:
                raise TooMany(most)
            found[state] = True
            waiting.extend(self._all_below(state))
        return list(found)

    def _all_below(self, state):
        """The list of all states that are among those of a move of a state."""
        met = self.met
        part = met.choices[state[:2]][1]
        found = {}
        for _, kinds in self._good_steps(state):
            for at, kind in enumerate(kinds):
                found[(at, kind)] = True
        below = []
        for _, other in self._others(state):
            for at, kind in found:
                below.append((kind, met.numbered.below[part][at], met.numbered.below[other][at]))
        return below

    def _steps_of(self, state):
        """The list of the moves of a state."""
        below = self.met.numbered.below
        price, part = self.met.choices[state[:2]]
        steps = []
        for operator, kinds in self._good_steps(state):
            for other, low in self._others(state):
                states = tuple([self._numbers[triple] for triple in zip(kinds, below[part], below[low])])
                steps.append((operator, states, price, other))
        return steps

    def _good_steps(self, state):
        """The steps of the kind of a state to subtrees which the greedy selector covers, too."""
        below = self.met.numbered.below[self.met.choices[state[:2]][1]]
        steps = []
        for step in self.met.table.steps[state[0]]:
            if all([low in self.least.sizes for low in zip(step[1], below)]):
                steps.append(step)
        return steps

    def _others(self, state):
        """The list of the pairs of a least price and a part with which the other cover goes on."""
        kind, _, side = state
        if self.met.numbered.below[side] is not None:
            return [(0, side)]
        ready = self.met.table.readies[kind]
        return [(price, part) for _, price, part in self.met.numbered.least[side] if ready >> part & 1]
