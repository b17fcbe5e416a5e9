"""What is refused by many functions."""

from munchbehind.base.books import Book
from munchbehind.base.words import is_count
from munchbehind.errors import InvalidBook, InvalidNumber, InvalidOperation, InvalidTree, UnknownName


def check_book(book):
    """Refuses what is no book."""
    if not isinstance(book, Book):
        raise InvalidBook("no book")


def check_tree(book, tree):
    """Refuses what is no tree for the operators of a book."""
    if not book.operators.is_tree(tree):
        raise InvalidTree("no tree for the operators of the book")


def check_place(tree, place):
    """Refuses what is no place of a tree."""
    if not is_count(place) or place >= len(tree):
        raise InvalidNumber(place)


def check_careful(careful):
    """Refuses what is neither True nor False."""
    if careful is not True and careful is not False:
        raise InvalidOperation("careful is True or False")


def side_of(book, nonterminal):
    """The number of the side of a nonterminal."""
    if nonterminal not in book.nonterminals:
        raise UnknownName(nonterminal)
    return book.numbered_sides().numbers[(nonterminal,)]


def start_of(book, start):
    """The number of the side that a cover starts from: None stands for the goal."""
    return side_of(book, book.goal if start is None else start)
