"""Slow and plain ways to the right answers about books: by the words of DOC.md, one call for each place."""

from itertools import product
from random import Random

from munchbehind.base.books import Book
from munchbehind.base.trees import Operators
from tests.values import all_trees, ends


def end(words, arities, at):
    """The index behind what begins there; words that are no operators have nothing below them."""
    behind = at + 1
    for _ in range(arities.get(words[at], 0)):
        behind = end(words, arities, behind)
    return behind


def below(words, arities, at):
    """The indices of what stands right below a word."""
    found = []
    behind = at + 1
    for _ in range(arities.get(words[at], 0)):
        found.append(behind)
        behind = end(words, arities, behind)
    return found


class Truth:
    """What is true of a book."""

    def __init__(self, book):
        self.book = book
        self.arities = book.operators.arities
        self.rules = book.rules
        self.parts = sorted({
            pattern[at:end(pattern, self.arities, at)]
            for _, _, pattern in book.rules for at, word in enumerate(pattern) if word in self.arities
        })
        self.nonterminals = sorted(
            {book.goal}
            | {name for name, _, _ in book.rules}
            | {word for _, _, pattern in book.rules for word in pattern if word not in self.arities}
        )
        self.kept_covers = {}
        self.kept_covered = {}

    def leaves(self, pattern, tree, at):
        """The leaves of a pattern at a place, None if it does not match."""
        if pattern[0] not in self.arities:
            return [(pattern[0], at)]
        if tree[at] != pattern[0]:
            return None
        found = []
        for inner, child in zip(below(pattern, self.arities, 0), below(tree, self.arities, at)):
            leaves = self.leaves(pattern[inner:end(pattern, self.arities, inner)], tree, child)
            if leaves is None:
                return None
            found += leaves
        return found

    def subtree(self, tree, at):
        return tree[at:ends(tree, self.arities, at)]

    def covers(self, tree, start, given=()):
        """All covers, ascending."""
        key = (tree, start, given)
        if key in self.kept_covers:
            return self.kept_covers[key]
        found = []
        for index, (name, _, pattern) in enumerate(self.rules):
            if name != start:
                continue
            if pattern[0] not in self.arities:
                if pattern[0] != start and pattern[0] not in given:
                    found += [(index,) + rest for rest in self.covers(tree, pattern[0], given + (start,))]
                continue
            leaves = self.leaves(pattern, tree, 0)
            if leaves is not None:
                rows = [self.covers(self.subtree(tree, at), leaf) for leaf, at in leaves]
                found += [sum(choice, (index,)) for choice in product(*rows)]
        self.kept_covers[key] = sorted(found)
        return self.kept_covers[key]

    def is_covered(self, tree, start):
        """Whether there is a cover, without making all of them."""
        key = (tree, start)
        if key not in self.kept_covered:
            self.kept_covered[key] = self._is_covered(tree, start, (start,))
        return self.kept_covered[key]

    def _is_covered(self, tree, start, given):
        for name, _, pattern in self.rules:
            if name != start:
                continue
            if pattern[0] not in self.arities:
                if pattern[0] not in given and self._is_covered(tree, pattern[0], given + (pattern[0],)):
                    return True
                continue
            leaves = self.leaves(pattern, tree, 0)
            if leaves is not None and all(self.is_covered(self.subtree(tree, at), leaf) for leaf, at in leaves):
                return True
        return False

    def price(self, cover):
        return sum(self.rules[index][1] for index in cover)

    def kind(self, tree):
        matched, ready = [], []
        for index, part in enumerate(self.parts):
            leaves = self.leaves(part, tree, 0)
            if leaves is not None:
                matched.append(index)
                if all(self.is_covered(self.subtree(tree, at), leaf) for leaf, at in leaves):
                    ready.append(index)
        return tuple(matched), tuple(ready)

    def trees_of_kinds(self, most):
        """A dict from kinds to trees, made of one another until nothing is new, or until there are so many."""
        found = {}
        fresh = [(name,) for name in self.arities if self.arities[name] == 0]
        while fresh and len(found) < most:
            tree = fresh.pop(0)
            kind = self.kind(tree)
            if kind in found:
                continue
            found[kind] = tree
            for name, arity in self.arities.items():
                if arity == 1:
                    fresh.append((name,) + tree)
                if arity == 2:
                    fresh += [(name,) + tree + other for other in found.values()]
                    fresh += [(name,) + other + tree for other in found.values()]
        return found

    def walk(self, tree, start, careful):
        """The triples (place, side, rules used there) of the greedy selector, in leftmost order.

        The rules are None where it is stuck; other branches go on.
        """
        return self._walk(tree, 0, (start,), careful)

    def _walk(self, tree, at, side, careful):
        part, rules = side, ()
        if side[0] not in self.arities:
            given = [side[0]]
            while part[0] not in self.arities:
                index = self.first_fitting(tree, at, given, careful)
                if index is None:
                    return [(at, side, None)]
                rules += (index,)
                part = self.rules[index][2]
                given.append(part[0])
        found = [(at, side, rules)]
        for inner, child in zip(below(part, self.arities, 0), below(tree, self.arities, at)):
            found += self._walk(tree, child, part[inner:end(part, self.arities, inner)], careful)
        return found

    def first_fitting(self, tree, at, given, careful):
        for index, (name, _, pattern) in enumerate(self.rules):
            if name != given[-1] or pattern[0] in given:
                continue
            leaves = self.leaves(pattern, tree, at)
            if leaves is None:
                continue
            if not careful or all(self.is_covered(self.subtree(tree, low), leaf) for leaf, low in leaves):
                return index
        return None

    def greedy(self, tree, start, careful):
        """The pair of the greedy selector's cover, or None, and the place where it is stuck, or None."""
        steps = self.walk(tree, start, careful)
        stuck = [at for at, _, rules in steps if rules is None]
        return (None, stuck[0]) if stuck else (sum([rules for _, _, rules in steps], ()), None)

    def sides(self, tree, cover, start):
        """The pair of the sides and the prices of a cover at all places."""
        rest = list(cover)
        sides, prices = [], []
        self._lay(tree, 0, (start,), rest, sides, prices)
        assert not rest
        return tuple(sides), tuple(prices)

    def _lay(self, tree, at, side, rest, sides, prices):
        sides.append(side)
        prices.append(0)
        part = side
        while part[0] not in self.arities:
            index = rest.pop(0)
            assert self.rules[index][0] == part[0]
            prices[at] += self.rules[index][1]
            part = self.rules[index][2]
        for inner, child in zip(below(part, self.arities, 0), below(tree, self.arities, at)):
            self._lay(tree, child, part[inner:end(part, self.arities, inner)], rest, sides, prices)


    def leads(self, start):
        """The patterns that begin with an operator to which chain rules, and another one, lead from a nonterminal."""
        found, names = [], [start]
        for name in names:
            for told, _, pattern in self.rules:
                if told == name and pattern[0] in self.arities:
                    found.append(pattern)
                elif told == name and pattern[0] not in names:
                    names.append(pattern[0])
        return found

    def is_side_covered(self, tree, at, side):
        leaves = self.leaves(side, tree, at)
        return leaves is not None and all(self.is_covered(self.subtree(tree, low), leaf) for leaf, low in leaves)

    def sides_of_covers(self, tree, start):
        """A list of sets: the sides that covers have at each place."""
        found = [set() for _ in tree]
        waiting = [(0, (start,))] if self.is_covered(tree, start) else []
        while waiting:
            at, side = waiting.pop()
            if side in found[at]:
                continue
            found[at].add(side)
            parts = [side] if side[0] in self.arities else self.leads(side[0])
            for part in parts:
                if self.is_side_covered(tree, at, part):
                    for inner, child in zip(below(part, self.arities, 0), below(tree, self.arities, at)):
                        waiting.append((child, part[inner:end(part, self.arities, inner)]))
        return found

    def pair_states(self, tree, careful):
        """The set of the pair states of a tree at all places, none if the greedy selector is stuck."""
        steps = self.walk(tree, self.book.goal, careful)
        if any(rules is None for _, _, rules in steps):
            return set()
        sides = self.sides_of_covers(tree, self.book.goal)
        found = set()
        for at, side, _ in steps:
            kind = self.kind(self.subtree(tree, at))
            found |= {(kind, side, other) for other in sides[at]}
        return found


def small_trees(book, most):
    """All trees of a book with at most so many places."""
    return [tree for size in range(1, most + 1) for tree in all_trees(book.operators.arities, size)]


def made_trees(book, most):
    """The same, for books with more operators."""
    return [tree for size in range(1, most + 1) for tree in book.operators.each_tree(size)]


def random_pattern(rng, arities, nonterminals, room):
    """A pattern of at most so many names, which begins with an operator."""
    name = rng.choice([word for word in arities if arities[word] < room])
    words, left = (name,), room - 1
    for rest in range(arities[name], 0, -1):
        if rng.random() < 0.55 or left == rest:
            more = (rng.choice(nonterminals),)
        else:
            more = random_pattern(rng, arities, nonterminals, left - rest + 1)
        words, left = words + more, left - len(more)
    return words


def random_book(seed, most_rules=8, most_words=5, most_nonterminals=3):
    """A book that is made at random, always the same one for a seed."""
    rng = Random(seed)
    arities = {"c": 0}
    for name in rng.sample("vspqt", rng.randint(1, 3)):
        arities[name] = {"v": 0, "s": 1, "t": 1, "p": 2, "q": 2}[name]
    nonterminals = "abdefg"[:rng.randint(1, most_nonterminals)]
    rules = {(name, ("c",)): rng.randint(0, 4) for name in nonterminals if rng.random() < 0.6}
    for _ in range(4 * most_rules):
        name, other = rng.choice(nonterminals), rng.choice(nonterminals)
        pattern = random_pattern(rng, arities, nonterminals, rng.randint(1, most_words))
        if rng.random() < 0.15 and other != name:
            pattern = (other,)
        if len(rules) < most_rules and (name, pattern) not in rules:
            rules[name, pattern] = rng.randint(0, 4)
    told = [(name, price, pattern) for (name, pattern), price in rules.items()]
    rng.shuffle(told)
    return Book(Operators(arities), nonterminals[0], tuple(told))


STEPS = Book.from_lines(
    "op c 0", "op s 1", "goal r", "rule r 1 s s s s r", "rule r 1 s s s r", "rule r 1 s r", "rule r 0 c",
)
ADDS = Book.from_lines(
    "op c 0", "op v 0", "op p 2", "goal r", "rule r 3 p r c", "rule r 1 p r r", "rule r 0 c", "rule r 0 v",
)
LOADS = Book.from_lines(
    "op c 0", "op v 0", "op s 1", "goal r", "rule r 1 s a", "rule r 2 s r", "rule r 1 v", "rule a 0 c", "rule r 1 a",
)
RING = Book.from_lines("op c 0", "goal n", "rule n 0 m", "rule n 1 c", "rule m 0 n")
EXAMPLES = (STEPS, ADDS, LOADS, RING)

# Books whose trees have just sixty kinds, and one more.
SIXTY = Book.from_lines(
    "op c 0", "op p 2", "goal a", "rule d 2 p c b", "rule a 2 c", "rule d 3 p b p a c", "rule b 0 c",
    "rule a 2 p a p a a", "rule d 3 p c c", "rule a 4 p d b", "rule d 3 c", "rule b 3 p p c c b", "rule d 1 p p c d c",
    "rule a 0 p c d", "rule d 2 p d p c c",
)
SIXTY_ONE = Book.from_lines(
    "op c 0", "op p 2", "goal a", "rule d 2 p d b", "rule b 2 p p d a a", "rule b 2 c", "rule a 0 p p p d b b a",
    "rule d 3 p d d", "rule d 4 p a c", "rule d 4 p b c", "rule b 2 p d c", "rule a 4 p p d d b", "rule d 0 c",
    "rule a 2 c", "rule b 0 p p c d p a d",
)

# Books with just six hundred useful pair states of the blind selector, and one more.
SIX_HUNDRED = Book.from_lines(
    "op c 0", "op s 1", "goal a", "rule a 0 c", "rule b 0 c", "rule d 0 c", "rule d 1 s s s s a", "rule b 2 s s s d",
    "rule a 0 s s b", "rule b 1 s s s s b",
)
ONE_MORE = Book.from_lines(
    "op c 0", "op s 1", "goal a", "rule a 0 c", "rule b 0 c", "rule a 1 s s s s s s b", "rule b 2 s s s s s a",
    "rule a 1 s s s s a", "rule a 0 s a", "rule b 1 s s s a",
)
