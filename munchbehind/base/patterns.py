"""Patterns of rules, in prefix order: operators, and nonterminals without subpatterns."""


def ends_of(words, arities):
    """The list of the indices behind the subtrees, or subpatterns, at all places.

    Words that have no arity have nothing below them.
    """
    ends = [0] * len(words)
    for place in range(len(words) - 1, -1, -1):
        end = place + 1
        for _ in range(arities.get(words[place], 0)):
            end = ends[end]
        ends[place] = end
    return ends


def children_of(pattern, arities):
    """The tuple of the subpatterns right below the operator that a pattern begins with."""
    ends = ends_of(pattern, arities)
    below = []
    at = 1
    for _ in range(arities[pattern[0]]):
        below.append(pattern[at:ends[at]])
        at = ends[at]
    return tuple(below)


def parts_of(patterns, arities):
    """The tuple of all subpatterns that begin with an operator, ascending."""
    found = {}
    for pattern in patterns:
        ends = ends_of(pattern, arities)
        for at, word in enumerate(pattern):
            if word in arities:
                found[pattern[at:ends[at]]] = True
    return tuple(sorted(found))


def leaves_of(pattern, tree, place, ends, arities):
    """The list of the pairs (nonterminal, place) of the leaves of a pattern at a place of a tree.

    None if it does not match there; ends are those of the tree.
    """
    leaves = []
    at = place
    for word in pattern:
        if word not in arities:
            leaves.append((word, at))
            at = ends[at]
        elif tree[at] == word:
            at += 1
        else:
            return None
    return leaves
