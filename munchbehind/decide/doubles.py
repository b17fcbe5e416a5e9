"""Where the greedy selectors of two orders of the rules are at the same place."""

from munchbehind.errors import TooMany
from munchbehind.match.least import Least


class Doubles:
    """The double states of two selectors, numbered ascending; TooMany if there are more than the most that are let.

    Both selectors are told by what they meet. Steps tells by states how their trees are made: tuples (operator, numbers
    of the states below, price of the first selector, price of the second one).
    """

    def __init__(self, one, other, most):
        self._one = one
        self._other = other
        self._covered = Least([(state, step[0], step[1]) for state, step in self._all_steps()])
        found = sorted(self._reached(most))
        numbers = {state: at for at, state in enumerate(found)}
        self.steps = []
        for state in found:
            rows = [step for step in self._steps_of(state) if all([low in numbers for low in step[1]])]
            self.steps.append([(step[0], tuple([numbers[low] for low in step[1]]), *step[2:]) for step in rows])
        self.first_ones = [numbers[state] for state in self._first_states() if state in numbers]

    def _first_states(self):
        """The states at the roots of all trees that have a cover from the goal."""
        goal = self._one.goal_side
        return [(kind, goal, goal) for kind in self._one.covered_kinds()]

    def _steps_of(self, state):
        """The list of the steps that make trees of a state, none if one of both selectors is stuck there."""
        kind, side, low = state
        mine, others = self._one.choices[(kind, side)], self._other.choices[(kind, low)]
        if mine is None or others is None:
            return []
        below = self._one.numbered.below
        steps = []
        for operator, kinds in self._one.table.steps[kind]:
            states = tuple(zip(kinds, below[mine[1]], below[others[1]]))
            steps.append((operator, states, mine[0], others[0]))
        return steps

    def _all_steps(self):
        """The list of all steps that lead down from the first states, as pairs of a state and a step."""
        found = {}
        steps = []
        waiting = self._first_states()
        while waiting:
            state = waiting.pop()
            if state in found:
                continue
            found[state] = True
            for step in self._steps_of(state):
                steps.append((state, step))
                waiting.extend(step[1])
        return steps

    def _reached(self, most):
        """The list of the states that both selectors come to in trees that both cover."""
        found = {}
        waiting = [state for state in self._first_states() if state in self._covered.sizes]
        while waiting:
            state = waiting.pop()
            if state in found:
                continue
            if len(found) == most:
                raise TooMany(most)
            found[state] = True
            for step in self._steps_of(state):
                if all([low in self._covered.sizes for low in step[1]]):
                    waiting.extend(step[1])
        return list(found)
