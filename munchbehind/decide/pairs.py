"""Pair states: where the greedy selector and another cover are at the same place."""

from munchbehind.base.asked import check_book, check_careful, check_tree
from munchbehind.cover.greedy import greedy_tiles
from munchbehind.cover.laid import Laid, tiles_of
from munchbehind.decide.met import Met
from munchbehind.errors import InvalidState, Stuck, TooMany
from munchbehind.match.kinds import is_kind_form
from munchbehind.match.least import Least

MAX_STATES = 600


class Pairs:
    """The useful pair states of a book and a mode. They never change."""

    def __init__(self, book, *, careful=False):
        check_book(book)
        check_careful(careful)
        self._book = book
        self._careful = careful
        self._met = Met(book, careful)
        self._least = Least(self._met.greedy_steps())
        self._useful = sorted(self._find())
        self._states = tuple([self._spelled(state) for state in self._useful])
        self._numbers = {state: at for at, state in enumerate(self._states)}

    @property
    def book(self):
        """The book."""
        return self._book

    @property
    def is_careful(self):
        """Whether the greedy selector is a careful one."""
        return self._careful

    @property
    def states(self):
        """All useful pair states, ascending."""
        return self._states

    @property
    def starts(self):
        """The states with the goal on both sides, ascending."""
        goal = (self._book.goal,)
        return tuple([state for state in self._states if state[1] == goal and state[2] == goal])

    def moves(self, state):
        """The moves of a state, ascending, as quadruples (operator, states, price, other)."""
        useful = self._useful[self._number(state)]
        price = self._met.choices[useful[:2]][0]
        moves = []
        for operator, kinds in self._good_steps(useful):
            for other, part in self._others(useful):
                moves.append((operator, self._below(useful, kinds, part), price, other))
        return tuple([self._spelled_move(move) for move in sorted(moves)])

    def tree_of(self, state):
        """A tree of a state with as few places as possible."""
        return self._least.spelled_tree(self._useful[self._number(state)][:2])

    def along(self, tree, cover):
        """The pair states at all places of a tree, with the greedy selector's cover and another one."""
        check_tree(self._book, tree)
        laid = Laid(self._book, tree, None)
        others = laid.sides(tiles_of(laid, cover))
        found, place = greedy_tiles(laid, self._careful)
        if place is not None:
            raise Stuck(place)
        kinds = self._met.table.kinds_at(tree, laid.ends)
        return tuple([self._spelled(state) for state in zip(kinds, laid.sides(found), others)])

    def __len__(self):
        return len(self._states)

    def __contains__(self, value):
        return self._is_form(value) and value in self._numbers

    def __iter__(self):
        return iter(self._states)

    def __eq__(self, other):
        return isinstance(other, Pairs) and self._book == other._book and self._careful == other._careful

    def __str__(self):
        return f"{len(self._states)} pair states, {len(self.starts)} starts"

    def _is_form(self, value):
        """Whether the value is made like a pair state of the book."""
        if not isinstance(value, tuple) or len(value) != 3 or not is_kind_form(self._book, value[0]):
            return False
        return all([side in self._met.numbered.spelled for side in value[1:]])

    def _number(self, state):
        if state not in self:
            raise InvalidState("no useful pair state")
        return self._numbers[state]

    def _spelled(self, state):
        kind, side, other = state
        sides = self._met.numbered.spelled
        return self._met.table.spelled[kind], sides[side], sides[other]

    def _spelled_move(self, move):
        operator, states, price, other = move
        return operator, tuple([self._spelled(state) for state in states]), price, other

    def _find(self):
        """Finds all useful pair states: a list of triples of numbers."""
        goal = self._met.goal_side
        found = {}
        waiting = [(kind, goal, goal) for kind in self._met.covered_kinds() if (kind, goal) in self._least.sizes]
        while waiting:
            state = waiting.pop()
            if state in found:
                continue
            if len(found) == MAX_STATES:
                raise TooMany(MAX_STATES)
            found[state] = True
            waiting.extend(self._all_below(state))
        return list(found)

    def _all_below(self, state):
        """The list of all states that are among those of a move of a state."""
        met = self._met
        part = met.choices[state[:2]][1]
        found = {}
        for _, kinds in self._good_steps(state):
            for at, kind in enumerate(kinds):
                found[(at, kind)] = True
        below = []
        for _, other in self._others(state):
            for at, kind in found:
                below.append((kind, met.numbered.below[part][at], met.numbered.below[other][at]))
        return below

    def _good_steps(self, state):
        """The steps of the kind of a state to subtrees which the greedy selector covers, too."""
        below = self._met.numbered.below[self._met.choices[state[:2]][1]]
        steps = []
        for step in self._met.table.steps[state[0]]:
            if all([low in self._least.sizes for low in zip(step[1], below)]):
                steps.append(step)
        return steps

    def _others(self, state):
        """The list of the pairs of a least price and a part with which the other cover goes on."""
        kind, _, side = state
        if self._met.numbered.below[side] is not None:
            return [(0, side)]
        ready = self._met.table.readies[kind]
        return [(price, part) for _, price, part in self._met.numbered.least[side] if ready >> part & 1]

    def _below(self, state, kinds, other):
        """The states of the subtrees, if they have some kinds and the other cover goes on with a part."""
        below = self._met.numbered.below
        part = self._met.choices[state[:2]][1]
        return tuple(zip(kinds, below[part], below[other]))
