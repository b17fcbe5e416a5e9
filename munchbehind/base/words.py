"""Integers and names, as they are passed to the package."""

from math import gcd

from munchbehind.errors import InvalidNumber

MAX_LETTERS = 8
MAX_FIGURES = 60


def is_integer(value):
    """Whether the value is an integer of at most MAX_FIGURES digits."""
    # An exponent has to be written out, so MAX_FIGURES cannot stand here.
    return isinstance(value, int) and not isinstance(value, bool) and abs(value) < 10 ** 60


def is_count(value):
    """Whether the value is an integer of at least 0."""
    return is_integer(value) and value >= 0


def is_name(value):
    """Whether the value is a string of one to MAX_LETTERS small letters."""
    if not isinstance(value, str) or len(value) > MAX_LETTERS:
        return False
    # Other alphabets have small letters, too.
    return value.isascii() and value.isalpha() and value.islower()


def are_names(value):
    """Whether the value is a tuple of names; the same one may come twice."""
    return isinstance(value, tuple) and all([is_name(word) for word in value])


def coprime(one, other):
    """The pair of coprime integers with the quotient of one and other."""
    if not is_count(one):
        raise InvalidNumber(one)
    if not is_count(other) or other == 0:
        raise InvalidNumber(other)
    shared = gcd(one, other)
    return one // shared, other // shared
