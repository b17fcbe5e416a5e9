"""A book that is worked on, with pledges that it has to keep."""

from munchbehind.base.books import rule_of
from munchbehind.base.words import is_count
from munchbehind.cover.covers import cheapest_price
from munchbehind.cover.greedy import greedy_price
from munchbehind.decide.papers import greatest_excess
from munchbehind.decide.ratios import ratio
from munchbehind.decide.stuck import is_never_stuck
from munchbehind.errors import InvalidNumber, InvalidOperation, NothingToUndo, ParseError, Refused, TooMany

MAX_PLEDGES = 10


def is_pledge(book, value):
    """Whether the value is a pledge for a book."""
    if not isinstance(value, tuple) or not value or not isinstance(value[0], str):
        return False
    word = value[0]
    told = value[1:]
    if word == "never stuck":
        return not told
    if word == "within":
        return len(told) == 1 and is_count(told[0])
    if len(told) != 2:
        return False
    if word == "ratio":
        return is_count(told[0]) and is_count(told[1]) and told[1] > 0
    if word == "greedy" or word == "cheapest":
        return book.operators.is_tree(told[0]) and (told[1] is None or is_count(told[1]))
    return False


def is_held(book, careful, pledge):
    """Whether a book keeps a pledge in a mode."""
    word = pledge[0]
    if word == "never stuck":
        return is_never_stuck(book, careful=careful)
    if word == "within":
        most = greatest_excess(book, careful=careful)
        return most is not None and most <= pledge[1]
    if word == "ratio":
        told = ratio(book, careful=careful)
        return told is not None and told[0] * pledge[2] <= told[1] * pledge[1]
    if word == "greedy":
        return greedy_price(book, pledge[1], careful=careful) == pledge[2]
    return cheapest_price(book, pledge[1]) == pledge[2]


class State:
    """A book with its greatest excess, and the pledges in the order of demands. It never changes."""

    def __init__(self, rulebook, most, promised):
        self.rulebook = rulebook
        self.most = most
        self.promised = promised


class Moment:
    """The states that a bench has come through, the present one last, and those to do again, the next one last."""

    def __init__(self, done, undone):
        self.done = done
        self.undone = undone
        self.present = done[-1]
        self.listed = self.present.rulebook.lines

    def is_like(self, other):
        """Whether the book and the pledges are the same at another moment."""
        mine, others = self.present, other.present
        return mine.rulebook == others.rulebook and mine.promised == others.promised


class Held:
    """A moment that is held for the end of a block, and what is held for blocks around it."""

    def __init__(self, moment, outer):
        self.moment = moment
        self.around = outer


class Trial:
    """A block behind which a bench is as before."""

    def __init__(self, bench):
        self._bench = bench
        self._held = None

    def __enter__(self):
        self._held = Held(self._bench._now, self._held)
        return self._bench

    def __exit__(self, kind, value, trace):
        bench = self._bench
        bench._now = self._held.moment
        self._held = self._held.around


class Bench:
    """A book that is worked on in one mode, with pledges that it has to keep."""

    def __init__(self, book, *, careful=False):
        most = greatest_excess(book, careful=careful)
        self._careful = careful
        self._now = Moment((State(book, most, ()),), ())

    @property
    def book(self):
        """The book as it is now."""
        return self._now.present.rulebook

    @property
    def is_careful(self):
        """Whether the greedy selector is a careful one."""
        return self._careful

    @property
    def last(self):
        """The greatest excess of the book; None if it is not bounded."""
        return self._now.present.most

    @property
    def pledges(self):
        """The pledges, in the order of demands."""
        return self._now.present.promised

    def draw(self, line, *, at=None):
        """Puts in the rule of a line at an index, or behind all others; returns the news."""
        rule = rule_of(line)
        if rule is None:
            raise ParseError(None)
        return self._take(self._now.present.rulebook.with_rule(rule, at=at))

    def erase(self, index):
        """Takes out the rule with an index; returns the news."""
        return self._take(self._now.present.rulebook.without_rule(index))

    def move(self, index, to):
        """Takes out a rule and puts it in so that it has the index to; returns the news."""
        return self._take(self._now.present.rulebook.moved(index, to))

    def demand(self, pledge):
        """Demands that a pledge be kept from now on; returns the news."""
        now = self._now.present
        if not is_pledge(now.rulebook, pledge) or pledge in now.promised:
            raise InvalidOperation("no pledge, or one that is there")
        if len(now.promised) == MAX_PLEDGES:
            raise TooMany(MAX_PLEDGES)
        if not is_held(now.rulebook, self._careful, pledge):
            raise Refused(pledge)
        return self._change(State(now.rulebook, now.most, now.promised + (pledge,)))

    def waive(self, pledge):
        """Takes back the demand of a pledge; returns the news."""
        now = self._now.present
        if not is_pledge(now.rulebook, pledge) or pledge not in now.promised:
            raise InvalidOperation("no pledge that is there")
        return self._change(State(now.rulebook, now.most, tuple([told for told in now.promised if told != pledge])))

    def undo(self, *, many=1):
        """Takes back so many changes; returns the news."""
        done, undone = self._now.done, self._now.undone
        check_many(many, len(done) - 1)
        left = len(done) - many
        return self._come_to(Moment(done[:left], undone + done[left:][::-1]))

    def redo(self, *, many=1):
        """Does so many changes again that were taken back; returns the news."""
        done, undone = self._now.done, self._now.undone
        check_many(many, len(undone))
        left = len(undone) - many
        return self._come_to(Moment(done + undone[left:][::-1], undone[:left]))

    def trial(self):
        """A block behind which the bench is as before it."""
        return Trial(self)

    def during(self, call):
        """What a call of the bench returns in such a block."""
        with self.trial():
            return call(self)

    def twin(self):
        """An independent copy, with all that can be taken back and done again."""
        other = Bench(self._now.present.rulebook, careful=self._careful)
        other._now = self._now
        return other

    def __contains__(self, value):
        now = self._now.present
        return value in self._now.listed or is_pledge(now.rulebook, value) and value in now.promised

    def __len__(self):
        return len(self._now.present.rulebook)

    def __iter__(self):
        return iter(self._now.listed)

    def __eq__(self, other):
        return isinstance(other, Bench) and self._careful == other._careful and self._now.is_like(other._now)

    def __str__(self):
        return f"bench with {len(self._now.present.rulebook)} rules, {len(self._now.present.promised)} pledges"

    def _take(self, book):
        """Takes another book, if it keeps all pledges; returns the news."""
        most = greatest_excess(book, careful=self._careful)
        promised = self._now.present.promised
        for pledge in promised:
            if not is_held(book, self._careful, pledge):
                raise Refused(pledge)
        return self._change(State(book, most, promised))

    def _change(self, state):
        return self._come_to(Moment(self._now.done + (state,), ()))

    def _come_to(self, moment):
        """Comes to another moment; returns the news."""
        before = self._now.present.most
        self._now = moment
        return () if moment.present.most == before else (before, moment.present.most)


def check_many(many, most):
    """Refuses what is no number of changes, or more than there are."""
    if not is_count(many):
        raise InvalidNumber(many)
    if many > most:
        raise NothingToUndo(many)
