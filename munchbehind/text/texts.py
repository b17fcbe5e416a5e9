"""Texts of trees, covers, books, pair states and papers, there and back."""

from munchbehind.base.books import MAX_PATTERN, MAX_RULES, Book
from munchbehind.base.trees import HOLE
from munchbehind.base.words import MAX_FIGURES, are_names, is_count, is_integer, is_name
from munchbehind.errors import InvalidBook, InvalidCover, InvalidPaper, InvalidState, InvalidTree, ParseError

# The text of an empty tuple.
EMPTY = "-"
BETWEEN = " | "


def are_words(value):
    """Whether the value is a tuple of at least one word of a tree or a context."""
    return isinstance(value, tuple) and len(value) > 0 and all([word == HOLE or is_name(word) for word in value])


def are_numbers(value, most):
    """Whether the value is a tuple of integers from 0 to the greatest one that is let."""
    return isinstance(value, tuple) and all([is_count(number) and number <= most for number in value])


def is_ascending(numbers):
    """Whether each number is greater than the one before it."""
    return all([one < other for one, other in zip(numbers, numbers[1:])])


def integer_in(text):
    """The integer of a text; None if it is none."""
    figures = text.removeprefix("-")
    if not figures.isascii() or not figures.isdigit() or len(figures) > MAX_FIGURES:
        return None
    if figures[0] == "0" and text != "0":
        return None
    return int(text)


def count_in(text):
    """The integer of at least 0 of a text; None if it is none."""
    number = integer_in(text)
    return None if number is None or number < 0 else number


def words_in(text):
    """The tuple of the words of a tree or a context in a text; None if it is none."""
    words = tuple(text.split(" "))
    return words if are_words(words) else None


def numbers_in(text, most):
    """The tuple of the numbers in a text, from 0 to the greatest one that is let; None if it is none."""
    numbers = tuple([count_in(word) for word in text.split(" ")])
    return numbers if are_numbers(numbers, most) else None


def cover_in(text):
    """The cover in a text; None if it is none."""
    return numbers_in(text, MAX_RULES - 1)


def row_of(numbers):
    """The row of some numbers."""
    return " ".join([str(number) for number in numbers])


def write_tree(tree):
    """The text of a tree or a context."""
    if not are_words(tree):
        raise InvalidTree("not a tuple of words")
    return " ".join(tree)


def read_tree(text):
    """The tree or the context of a text."""
    words = words_in(text) if isinstance(text, str) else None
    if words is None:
        raise ParseError(None)
    return words


def write_cover(cover):
    """The text of a cover."""
    if not are_numbers(cover, MAX_RULES - 1) or not cover:
        raise InvalidCover("not a tuple of indices of rules")
    return row_of(cover)


def read_cover(text):
    """The cover of a text."""
    numbers = cover_in(text) if isinstance(text, str) else None
    if numbers is None:
        raise ParseError(None)
    return numbers


def write_book(book):
    """The text of a book."""
    if not isinstance(book, Book):
        raise InvalidBook("no book")
    return "\n".join(book.lines)


def read_book(text):
    """The book of a text."""
    if not isinstance(text, str):
        raise ParseError(None)
    lines = text.split("\n")
    return Book.from_lines(*lines)


def is_side_form(value):
    """Whether the value is a tuple of as many names as a side may have."""
    return are_names(value) and 1 <= len(value) <= MAX_PATTERN


def is_state_form(value):
    """Whether the value has the form of a pair state of some book."""
    if not isinstance(value, tuple) or len(value) != 3:
        return False
    kind, side, other = value
    if not isinstance(kind, tuple) or len(kind) != 2 or not is_side_form(side) or not is_side_form(other):
        return False
    return all([are_numbers(told, MAX_RULES * MAX_PATTERN - 1) and is_ascending(told) for told in kind])


def state_text(state):
    """The text of a pair state."""
    kind, side, other = state
    told = "/".join([row_of(numbers) if numbers else EMPTY for numbers in kind])
    return BETWEEN.join([told, " ".join(side), " ".join(other)])


def state_in(text):
    """The pair state of a text; None if it is none."""
    rows = text.split(BETWEEN)
    if len(rows) != 3:
        return None
    most = MAX_RULES * MAX_PATTERN - 1
    kind = tuple([() if told == EMPTY else numbers_in(told, most) for told in rows[0].split("/")])
    state = (kind, tuple(rows[1].split(" ")), tuple(rows[2].split(" ")))
    return state if is_state_form(state) else None


def write_state(state):
    """The text of a pair state."""
    if not is_state_form(state):
        raise InvalidState("not the form of a pair state")
    return state_text(state)


def read_state(text):
    """The pair state of a text."""
    state = state_in(text) if isinstance(text, str) else None
    if state is None:
        raise ParseError(None)
    return state


def are_bounds_form(value):
    """Whether the value is a dict from what has the form of pair states to integers."""
    if not isinstance(value, dict):
        return False
    return all([is_state_form(state) and is_integer(bound) for state, bound in value.items()])


def write_paper(paper):
    """The text of a paper."""
    if not isinstance(paper, tuple) or not paper:
        raise InvalidPaper("no tuple of a word and more")
    word = paper[0]
    told = paper[1:]
    if word == "within" and len(told) == 2 and is_count(told[0]) and are_bounds_form(told[1]):
        most, limits = told
        return "\n".join([f"within {most}", *[f"{state_text(state)} = {limits[state]}" for state in sorted(limits)]])
    if word == "behind" and len(told) == 3 and all([are_words(words) for words in told]):
        return "behind " + BETWEEN.join([" ".join(words) for words in told])
    raise InvalidPaper("not the form of a paper")


def behind_in(line):
    """The paper of the second form in a line; None if it is none."""
    rows = line.removeprefix("behind ").split(BETWEEN)
    told = [words_in(row) for row in rows]
    if not line.startswith("behind ") or len(told) != 3 or None in told:
        return None
    return ("behind", *told)


def bound_in(line):
    """The pair of a pair state and its bound in a line; None if it is none."""
    told, sign, number = line.partition(" = ")
    state, bound = state_in(told), integer_in(number)
    return None if sign == "" or state is None or bound is None else (state, bound)


def read_paper(text):
    """The paper of a text."""
    if not isinstance(text, str):
        raise ParseError(None)
    lines = text.split("\n")
    behind = behind_in(lines[0])
    most = count_in(lines[0].removeprefix("within ")) if lines[0].startswith("within ") else None
    if behind is None and most is None:
        raise ParseError(0)
    if behind is not None and len(lines) > 1:
        raise ParseError(1)
    return ("within", most, read_bounds(lines)) if behind is None else behind


def read_bounds(lines):
    """The dict of the bounds in the lines behind the first one."""
    told = {}
    last = None
    for index, line in enumerate(lines):
        if index > 0:
            pair = bound_in(line)
            if pair is None or last is not None and pair[0] <= last:
                raise ParseError(index)
            last = pair[0]
            told[last] = pair[1]
    return told
