"""Whether the greedy selector is ever stuck in a tree that has a cover."""

from munchbehind.base.asked import check_book, check_careful
from munchbehind.base.kept import kept_answer
from munchbehind.cover.alike import asked_prices
from munchbehind.decide.met import met_of
from munchbehind.match.kinds import is_kind_form
from munchbehind.match.least import Least


def met_asked(book, careful):
    """What is met in the book and the mode that are asked for."""
    check_book(book)
    check_careful(careful)
    return met_of(book, careful)


def work_out_states(book, careful):
    """The ascending tuple of all met states."""
    met = met_of(book, careful)
    kinds, sides = met.table.spelled, met.numbered.spelled
    return tuple([(kinds[kind], sides[side]) for kind, side in sorted(met.choices)])


def met_states(book, *, careful=False):
    """All met states, ascending."""
    met_asked(book, careful)
    return kept_answer(book, careful, work_out_states)


def is_met_never_stuck(met):
    """Whether the greedy selector is stuck in no met state."""
    return all([choice is not None for choice in met.choices.values()])


def is_never_stuck(book, *, careful=False):
    """Whether the greedy selector is stuck in no tree that has a cover from the goal."""
    return is_met_never_stuck(met_asked(book, careful))


def stuck_steps(met):
    """The list of all steps that make trees of kinds, and trees of met states in which the selector is stuck.

    Their nodes are kinds and met states.
    """
    steps = []
    for kind, rows in enumerate(met.table.steps):
        steps.extend([(kind, operator, kinds) for operator, kinds in rows])
    for node, choice in met.choices.items():
        for operator, kinds in met.table.steps[node[0]]:
            if choice is None:
                steps.append((node, operator, kinds))
                continue
            # It is enough that the selector is stuck in one of the subtrees.
            for at, state in enumerate(zip(kinds, met.numbered.below[choice[1]])):
                steps.append((node, operator, kinds[:at] + (state,) + kinds[at + 1:]))
    return steps


def work_out_stuck_tree(book, careful):
    """A tree with as few places as possible that has a cover, and in which the greedy selector is stuck, or None."""
    met = met_of(book, careful)
    if is_met_never_stuck(met):
        return None
    least = Least(stuck_steps(met))
    nodes = [(kind, met.goal_side) for kind in met.covered_kinds()]
    _, found = min([(least.sizes[node], node) for node in nodes if node in least.sizes])
    return least.spelled_tree(found)


def stuck_tree(book, *, careful=False):
    """A tree with as few places as possible that has a cover, and in which the greedy selector is stuck, or None."""
    met_asked(book, careful)
    return kept_answer(book, careful, work_out_stuck_tree)


def stuck_paper(book, *, careful=False):
    """A paper about being stuck, the first form with just the met states."""
    tree = stuck_tree(book, careful=careful)
    return ("never", met_states(book, careful=careful)) if tree is None else ("stuck", tree)


def is_stuck_paper(book, value, *, careful=False):
    """Whether the value is a paper about being stuck."""
    met = met_asked(book, careful)
    if not isinstance(value, tuple) or len(value) != 2:
        return False
    if value[0] == "never":
        return are_never_stuck(book, met, value[1])
    return value[0] == "stuck" and is_stuck_in(book, value[1], careful)


def is_stuck_in(book, tree, careful):
    """Whether the value is a tree that has a cover, and in which the greedy selector is stuck."""
    if not book.operators.is_tree(tree):
        return False
    least, price = asked_prices(book, tree, None, careful)
    return least is not None and price is None


def are_never_stuck(book, met, value):
    """Whether the value is an ascending tuple of states, all met ones among them, and stuck in none."""
    if not isinstance(value, tuple) or not all([is_state(book, met, state) for state in value]):
        return False
    kinds, sides = met.table.numbers, met.numbered.numbers
    states = [(kinds[kind], sides[side]) for kind, side in value]
    if not all([one < other for one, other in zip(states, states[1:])]):
        return False
    told = {state: True for state in states}
    return all([state in told for state in met.choices]) and all([met.choice(state) is not None for state in states])


def is_state(book, met, value):
    """Whether the value is a pair of the kind of some tree and a side of the book."""
    if not isinstance(value, tuple) or len(value) != 2 or not is_kind_form(book, value[0]):
        return False
    return value[0] in met.table.numbers and value[1] in met.numbered.spelled
