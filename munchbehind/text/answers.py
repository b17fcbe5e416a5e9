"""Texts in the answers of a shell."""

from munchbehind.text.commands import NEVER, NONE

NOTHING = "nothing"
FIGURES_AT_ONCE = 60
PIECE = 10 ** 60


def number_text(number):
    """The text of an integer of at least 0, or of None."""
    if number is None:
        return NONE
    pieces = []
    rest = number
    # Python does not write integers of some thousand figures at once.
    while rest >= PIECE:
        rest, piece = divmod(rest, PIECE)
        pieces.append(str(piece).zfill(FIGURES_AT_ONCE))
    pieces.append(str(rest))
    return "".join(pieces[::-1])


def fraction_text(fraction):
    """The text of a pair of integers, or of None."""
    if fraction is None:
        return NONE
    above, below = fraction
    return f"{number_text(above)}/{number_text(below)}"


def tree_text(tree):
    """The text of a tree, or of None."""
    return NONE if tree is None else " ".join(tree)


def row_text(texts):
    """Several texts in one answer."""
    return "; ".join(texts)


def news_text(news):
    """The text of the news of a change."""
    if not news:
        return NOTHING
    before, after = news
    return f"from {number_text(before)} to {number_text(after)}"


def pledge_text(pledge):
    """The text of a pledge."""
    word = pledge[0]
    if word == NEVER:
        return NEVER
    if word == "greedy" or word == "cheapest":
        return " ".join([word, number_text(pledge[2]), tree_text(pledge[1])])
    return " ".join([word, *[number_text(number) for number in pledge[1:]]])
