"""Pair states: where the greedy selector and another cover are at the same place."""

from munchbehind.base.asked import check_book, check_careful
from munchbehind.base.kept import kept_answer
from munchbehind.base.patterns import ends_of
from munchbehind.cover.walks import asked_greedy_walk, asked_walk
from munchbehind.decide.met import met_of
from munchbehind.decide.useful import Useful
from munchbehind.errors import InvalidState, Stuck
from munchbehind.match.kinds import is_kind_form

MAX_STATES = 600


def work_out_useful(book, careful):
    """The useful pair states of a book and a mode by numbers."""
    return Useful(met_of(book, careful), MAX_STATES)


def useful_of(book, careful):
    """The same for what is asked for, worked out once for each book."""
    check_book(book)
    check_careful(careful)
    return kept_answer(book, careful, work_out_useful)


class Pairs:
    """The useful pair states of a book and a mode. They never change."""

    def __init__(self, book, *, careful=False):
        self._useful = useful_of(book, careful)
        self._book = book
        self._careful = careful

    @property
    def book(self):
        """The book."""
        return self._book

    @property
    def is_careful(self):
        """Whether the greedy selector is a careful one."""
        return self._careful

    @property
    def states(self):
        """All useful pair states, ascending."""
        return self._useful.spelled

    @property
    def starts(self):
        """The states with the goal on both sides, ascending."""
        return tuple([self._useful.spelled[at] for at in self._useful.first_ones])

    def moves(self, state):
        """The moves of a state, ascending, as quadruples (operator, states, price, other)."""
        spelled = self._useful.spelled
        moves = []
        for operator, below, price, other in self._useful.steps[self._number(state)]:
            moves.append((operator, tuple([spelled[low] for low in below]), price, other))
        return tuple(moves)

    def tree_of(self, state):
        """A tree of a state with as few places as possible."""
        return self._useful.least_tree(self._number(state))

    def along(self, tree, cover):
        """The pair states at all places of a tree, with the greedy selector's cover and another one."""
        told = asked_walk(self._book, tree, cover, None)
        walk = asked_greedy_walk(self._book, tree, None, self._careful)
        if walk.stuck is not None:
            raise Stuck(walk.stuck)
        table = self._useful.met.table
        kinds = table.kinds_at(tree, ends_of(tree, table.numbered.arity))
        return tuple([self._useful.spelled_state(state) for state in zip(kinds, walk.met, told.met)])

    def __len__(self):
        return len(self._useful.spelled)

    def __contains__(self, value):
        return self._is_form(value) and value in self._useful.numbers

    def __iter__(self):
        return iter(self._useful.spelled)

    def __eq__(self, other):
        return isinstance(other, Pairs) and self._book == other._book and self._careful == other._careful

    def __str__(self):
        return f"{len(self._useful.spelled)} pair states, {len(self.starts)} starts"

    def _is_form(self, value):
        """Whether the value is made like a pair state of the book."""
        if not isinstance(value, tuple) or len(value) != 3 or not is_kind_form(self._book, value[0]):
            return False
        return all([side in self._useful.met.numbered.spelled for side in value[1:]])

    def _number(self, state):
        if state not in self:
            raise InvalidState("no useful pair state")
        return self._useful.numbers[state]
