"""A shell: a bench that is worked on and asked by lines of text."""

from munchbehind.cover.covers import cheapest, count_covers, cover_price
from munchbehind.cover.greedy import excess, greedy, stuck_at
from munchbehind.decide.orders import best_orders
from munchbehind.decide.papers import is_paper, paper, worst_tree
from munchbehind.decide.pumps import Pump
from munchbehind.decide.ratios import ratio
from munchbehind.decide.sizes import greatest_by_sizes, least_behind
from munchbehind.decide.stuck import stuck_tree
from munchbehind.errors import (
    InvalidBook, InvalidCover, InvalidNumber, InvalidOperation, InvalidOperators, InvalidTree, NotCovered,
    NothingToUndo, ParseError, Refused, TooMany, UnknownName,
)
from munchbehind.text.answers import (
    NOTHING, fraction_text, news_text, number_text, pledge_text, row_text, tree_text,
)
from munchbehind.text.commands import NEVER, command_in
from munchbehind.text.texts import read_book, row_of, write_paper
from munchbehind.use.bench import Bench


def answer_draw(bench, line, at):
    """Draws the rule of a line."""
    return news_text(bench.draw(line, at=at))


def answer_erase(bench, index):
    """Erases a rule."""
    return news_text(bench.erase(index))


def answer_move(bench, index, to):
    """Moves a rule."""
    return news_text(bench.move(index, to))


def answer_demand(bench, pledge):
    """Demands a pledge."""
    return news_text(bench.demand(pledge))


def answer_waive(bench, pledge):
    """Waives a pledge."""
    return news_text(bench.waive(pledge))


def answer_undo(bench):
    """Takes back a change."""
    return news_text(bench.undo())


def answer_redo(bench):
    """Does a change again."""
    return news_text(bench.redo())


def answer_lines(bench):
    """The lines of the book."""
    return row_text(bench.book.lines)


def answer_pledges(bench):
    """The pledges."""
    return row_text([pledge_text(pledge) for pledge in bench.pledges]) if bench.pledges else NOTHING


def answer_behind(bench):
    """The greatest excess."""
    return number_text(bench.last)


def answer_worst(bench):
    """A worst tree."""
    return tree_text(worst_tree(bench.book, careful=bench.is_careful))


def answer_ratio(bench):
    """The ratio."""
    return fraction_text(ratio(bench.book, careful=bench.is_careful))


def answer_stuck(bench):
    """A tree in which the greedy selector is stuck."""
    return tree_text(stuck_tree(bench.book, careful=bench.is_careful))


def answer_paper(bench):
    """A paper, of the first form only its first line."""
    lines = write_paper(paper(bench.book, careful=bench.is_careful)).split("\n")
    return lines[0]


def answer_is_behind(bench, outer, loop, inner):
    """Whether two contexts and a tree are a paper of the second form."""
    return "yes" if is_paper(bench.book, ("behind", outer, loop, inner), careful=bench.is_careful) else "no"


def answer_greedy(bench, tree):
    """The cover of the greedy selector, or where it is stuck."""
    place = stuck_at(bench.book, tree, careful=bench.is_careful)
    if place is not None:
        return f"stuck at {place}"
    return row_of(greedy(bench.book, tree, careful=bench.is_careful))


def answer_cheapest(bench, tree):
    """A cheapest cover."""
    return row_of(cheapest(bench.book, tree))


def answer_excess(bench, tree):
    """The excess."""
    return number_text(excess(bench.book, tree, careful=bench.is_careful))


def answer_price(bench, tree, cover):
    """The price of a cover."""
    return number_text(cover_price(bench.book, tree, cover))


def answer_covers(bench, tree):
    """The number of all covers."""
    return number_text(count_covers(bench.book, tree))


def answer_sizes(bench, size):
    """The greatest excesses by sizes."""
    told = greatest_by_sizes(bench.book, size, careful=bench.is_careful)
    return row_text([number_text(most) for most in told])


def answer_least(bench, number):
    """A least tree that is so far behind."""
    return tree_text(least_behind(bench.book, number, careful=bench.is_careful))


def answer_pump(bench, times, outer, loop, inner):
    """The excess and the rate of a pump."""
    pump = Pump(bench.book, outer, loop, inner, careful=bench.is_careful)
    return row_text([number_text(pump.excess(times)), fraction_text(pump.rate)])


def answer_orders(bench):
    """The best verdict and the first best order."""
    (never, most), orders = best_orders(bench.book, careful=bench.is_careful)
    return row_text([NEVER if never else "stuck", number_text(most), row_of(orders[0])])


ACTIONS = {
    "draw": answer_draw, "erase": answer_erase, "move": answer_move, "demand": answer_demand, "waive": answer_waive,
    "undo": answer_undo, "redo": answer_redo, "lines": answer_lines, "pledges": answer_pledges,
    "behind": answer_behind, "worst": answer_worst, "ratio": answer_ratio, "stuck": answer_stuck,
    "paper": answer_paper, "is": answer_is_behind, "greedy": answer_greedy, "cheapest": answer_cheapest,
    "excess": answer_excess, "price": answer_price, "covers": answer_covers, "sizes": answer_sizes,
    "least": answer_least, "pump": answer_pump, "orders": answer_orders,
}


def reply(bench, action, told):
    """The pair of the answer to a command, and whether there was no error."""
    try:
        return action(bench, *told), True
    except InvalidOperators:
        return "operators", False
    except InvalidTree:
        return "tree", False
    except InvalidBook:
        return "book", False
    except InvalidCover:
        return "cover", False
    except InvalidOperation:
        return "operation", False
    except UnknownName:
        return "unknown", False
    except ParseError:
        return "line", False
    except InvalidNumber:
        return "number", False
    except NotCovered:
        return "not covered", False
    except NothingToUndo:
        return "undo", False
    except TooMany as limited:
        return f"many {limited.limit}", False
    except Refused as barred:
        return f"refused {pledge_text(barred.pledge)}", False


class Shell:
    """A bench that is worked on and asked by lines of text."""

    def __init__(self, text, *, careful=False):
        self._bench = Bench(read_book(text), careful=careful)
        self._answered = []

    def answer(self, line):
        """The answer to a command."""
        command = command_in(line)
        if command is None:
            return "what"
        word, told = command
        action = ACTIONS[word]
        text, is_right = reply(self._bench, action, told)
        if is_right:
            self._answered.append(word)
        return text

    def bench(self):
        """A twin of the bench."""
        return self._bench.twin()

    def __call__(self, line):
        return self.answer(line)

    def __len__(self):
        return len(self._answered)
