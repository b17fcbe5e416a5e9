"""The commands of a shell: their words, and what stands behind these."""

from munchbehind.text.texts import BETWEEN, count_in, cover_in, words_in

# How a pledge without a number is written.
NEVER = "never stuck"
NONE = "none"
# Commands with nothing behind their words.
PLAIN = ("undo", "redo", "lines", "pledges", "behind", "worst", "ratio", "stuck", "paper", "orders")


def rule_behind(text):
    """A line to draw, and the index that stands ahead of it, or None."""
    number, blank, line = text.partition(" ")
    at = count_in(number) if blank else None
    return (text, None) if at is None else (line, at)


def number_behind(text):
    """One number."""
    number = count_in(text)
    return None if number is None else (number,)


def numbers_behind(text):
    """Two numbers."""
    numbers = [count_in(word) for word in text.split(" ")]
    return None if len(numbers) != 2 or None in numbers else tuple(numbers)


def tree_behind(text):
    """One tree."""
    tree = words_in(text)
    return None if tree is None else (tree,)


def cover_behind(text):
    """A tree and a cover."""
    rows = text.split(BETWEEN)
    if len(rows) != 2:
        return None
    tree, cover = words_in(rows[0]), cover_in(rows[1])
    return None if tree is None or cover is None else (tree, cover)


def parts_behind(text):
    """Two contexts and a tree."""
    parts = [words_in(row) for row in text.split(BETWEEN)]
    return None if len(parts) != 3 or None in parts else tuple(parts)


def paper_behind(text):
    """Two contexts and a tree behind one more word."""
    return parts_behind(text.removeprefix("behind ")) if text.startswith("behind ") else None


def pump_behind(text):
    """A number, two contexts and a tree."""
    word, _, rest = text.partition(" ")
    number, parts = count_in(word), parts_behind(rest)
    return None if number is None or parts is None else (number, *parts)


def pledge_behind(text):
    """A pledge."""
    word, _, rest = text.partition(" ")
    pledge = None
    if text == NEVER:
        pledge = (NEVER,)
    elif word == "within":
        told = number_behind(rest)
        pledge = None if told is None else (word, *told)
    elif word == "ratio":
        told = numbers_behind(rest)
        pledge = None if told is None else (word, *told)
    elif word == "greedy" or word == "cheapest":
        price, _, text_of_tree = rest.partition(" ")
        tree, number = words_in(text_of_tree), count_in(price)
        pledge = None if tree is None or number is None and price != NONE else (word, tree, number)
    return None if pledge is None else (pledge,)


READERS = {
    "draw": rule_behind, "erase": number_behind, "move": numbers_behind, "demand": pledge_behind,
    "waive": pledge_behind, "is": paper_behind, "greedy": tree_behind, "cheapest": tree_behind,
    "excess": tree_behind, "price": cover_behind, "covers": tree_behind, "sizes": number_behind,
    "least": number_behind, "pump": pump_behind,
}


def command_in(line):
    """The pair of the word of a command and the tuple of what stands behind it; None if the value is no command."""
    if not isinstance(line, str):
        return None
    word, blank, rest = line.partition(" ")
    if blank == "":
        return (word, ()) if word in PLAIN else None
    if word not in READERS:
        return None
    reader = READERS[word]
    told = reader(rest)
    return None if told is None else (word, told)
