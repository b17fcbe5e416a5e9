"""What is refused, with which error, and which of several errors comes first."""

from itertools import product

from munchbehind.errors import (
    InvalidNumber, NotCovered, NothingToUndo, ParseError, Refused, Stuck, TooMany, UnknownName,
)
from tests.timed import TimedTest

KEPT = {
    InvalidNumber: "value", NotCovered: "uncovered", NothingToUndo: "many", ParseError: "number", Refused: "pledge",
    Stuck: "place", TooMany: "limit", UnknownName: "word",
}


class RefusedTest(TimedTest):
    def assert_refused(self, error, kept, function, *rest, **more):
        """Kept is what the error keeps, None if it takes a message."""
        with self.assertRaises(error) as caught:
            function(*rest, **more)
        self.assertIs(type(caught.exception), error)
        if error in KEPT:
            told = getattr(caught.exception, KEPT[error])
            self.assertIs(type(told), type(kept))
            self.assertTrue(told is kept or told == kept, (told, kept))

    def assert_order(self, function, *slots):
        """The first wrong argument tells the error, whatever the others are, and right ones raise nothing.

        A slot is a pair of a right value and of triples (wrong value, error, what it keeps), in the order of checks.
        """
        for choice in product(*[[None, *wrong] for _, wrong in slots]):
            told = [right if wrong is None else wrong[0] for (right, _), wrong in zip(slots, choice)]
            first = [wrong for wrong in choice if wrong is not None]
            with self.subTest(told=told):
                if first:
                    self.assert_refused(first[0][1], first[0][2], function, *told)
                else:
                    function(*told)


def wrong_values(error, *values):
    """The triples of a slot whose error keeps the wrong value, or nothing."""
    return [(value, error, value if error in KEPT else None) for value in values]
