"""What the greedy selector uses for a nonterminal."""


def first_fitting(used, given, let):
    """The first rule that fits, None if there is none."""
    for rule in used:
        if let >> rule[2] & 1 and rule[2] not in given:
            return rule
    return None


def chosen(used, below, side, let):
    """What the greedy selector uses for a nonterminal: the triple (rules, price, part); None if it is stuck.

    Used and below are as in the numbered sides of a book, used in any order of the rules. Let is the set of the sides
    that a rule may lead to: of matched ones, or of ready ones for a careful selector.
    """
    rules = ()
    price = 0
    given = (side,)
    while True:
        found = first_fitting(used[given[-1]], given, let)
        if found is None:
            return None
        index, more, target = found
        rules += (index,)
        price += more
        if below[target] is not None:
            return rules, price, target
        given += (target,)
