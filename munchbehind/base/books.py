"""Books: operators, a goal, and rules in an order."""

from munchbehind.base.patterns import parts_of
from munchbehind.base.sides import Sides
from munchbehind.base.trees import Operators, is_whole, operator_of
from munchbehind.base.words import are_names, is_count, is_integer, is_name
from munchbehind.errors import InvalidBook, InvalidNumber, InvalidOperation, InvalidOperators, ParseError, UnknownName

MAX_RULES = 12
MAX_PATTERN = 7
MAX_PRICE = 9
MAX_NONTERMINALS = 6

FIGURES = ("0", "1", "2", "3", "4", "5", "6", "7", "8", "9")


def goal_of(line):
    """The goal in a line like "goal r"; None if it is no line."""
    if not isinstance(line, str):
        return None
    words = line.split(" ")
    if len(words) != 2 or words[0] != "goal" or not is_name(words[1]):
        return None
    return words[1]


def rule_of(line):
    """The rule in a line like "rule r 3 p r c"; None if it is no line."""
    if not isinstance(line, str):
        return None
    words = line.split(" ")
    if len(words) < 4 or len(words) > MAX_PATTERN + 3 or words[0] != "rule" or words[2] not in FIGURES:
        return None
    pattern = tuple(words[3:])
    if not is_name(words[1]) or not are_names(pattern):
        return None
    return words[1], int(words[2]), pattern


def is_rule(value, arities):
    """Whether the value is a rule for operators with these arities."""
    if not isinstance(value, tuple) or len(value) != 3:
        return False
    nonterminal, price, pattern = value
    if not is_name(nonterminal) or nonterminal in arities or not is_integer(price) or not 0 <= price <= MAX_PRICE:
        return False
    if not are_names(pattern) or not 1 <= len(pattern) <= MAX_PATTERN or pattern == (nonterminal,):
        return False
    return is_whole(pattern, {**{word: 0 for word in pattern}, **arities})


def nonterminals_of(goal, rules, arities):
    """The tuple of the goal and all nonterminals in rules, ascending."""
    found = {goal: True}
    for nonterminal, _, pattern in rules:
        for word in (nonterminal, *pattern):
            if word not in arities:
                found[word] = True
    return tuple(sorted(found))


def is_book(goal, rules, arities):
    """Whether there is a book with this goal and these rules."""
    if not is_name(goal) or goal in arities or not isinstance(rules, tuple) or len(rules) > MAX_RULES:
        return False
    if not all([is_rule(rule, arities) for rule in rules]):
        return False
    if len({(nonterminal, pattern) for nonterminal, _, pattern in rules}) < len(rules):
        return False
    return len(nonterminals_of(goal, rules, arities)) <= MAX_NONTERMINALS


class Book:
    """Operators, a goal, and rules in an order. It never changes."""

    def __init__(self, operators, goal, rules):
        if not isinstance(operators, Operators):
            raise InvalidOperators("no operators")
        arities = operators.arities
        if not is_book(goal, rules, arities):
            raise InvalidBook("no book with this goal and these rules")
        self._operators = operators
        self._goal = goal
        self._rules = rules
        self._nonterminals = nonterminals_of(goal, rules, arities)
        self._parts = parts_of([pattern for _, _, pattern in rules], arities)
        told = [" ".join(["rule", word, str(price), *pattern]) for word, price, pattern in rules]
        self._lines = (*operators.lines, f"goal {goal}", *told)
        self._sides = None
        self._kept = {}

    @classmethod
    def from_lines(cls, *lines):
        """The book with lines like those of its property, in any order but that of the rules."""
        arities = {}
        goal = None
        rules = []
        for index, line in enumerate(lines):
            operator, told, rule = operator_of(line), goal_of(line), rule_of(line)
            if operator is not None and operator[0] not in arities:
                arities[operator[0]] = operator[1]
            elif told is not None and goal is None:
                goal = told
            elif rule is not None:
                rules.append(rule)
            else:
                raise ParseError(index)
        return cls(Operators(arities), goal, tuple(rules))

    @property
    def operators(self):
        """The operators."""
        return self._operators

    @property
    def goal(self):
        """The goal."""
        return self._goal

    @property
    def rules(self):
        """The rules, in their order."""
        return self._rules

    @property
    def nonterminals(self):
        """All nonterminals, ascending."""
        return self._nonterminals

    @property
    def parts(self):
        """The subpatterns of rules that begin with an operator, ascending."""
        return self._parts

    @property
    def lines(self):
        """The lines of the operators, the goal and the rules."""
        return self._lines

    def numbered_sides(self):
        """The sides of the book by numbers: they are worked out once, when they are first asked for."""
        if self._sides is None:
            self._sides = Sides(self._operators.arities, self._rules, self._parts, self._nonterminals)
        return self._sides

    def kept_answers(self):
        """What was worked out of the book, for later questions: a dict that is filled by others."""
        return self._kept

    def rules_of(self, nonterminal):
        """The indices of the rules of a nonterminal, ascending."""
        if nonterminal not in self._nonterminals:
            raise UnknownName(nonterminal)
        return tuple([index for index, rule in enumerate(self._rules) if rule[0] == nonterminal])

    def with_rule(self, rule, *, at=None):
        """The book with one more rule at an index, or behind all others."""
        many = len(self._rules)
        if at is not None and (not is_count(at) or at > many):
            raise InvalidNumber(at)
        index = many if at is None else at
        return self._with_rules(self._rules[:index] + (rule,) + self._rules[index:])

    def without_rule(self, index):
        """The book without the rule with an index."""
        self._check_index(index)
        return self._with_rules(self._rules[:index] + self._rules[index + 1:])

    def moved(self, index, to):
        """The book with a rule taken out and put in so that it has the index to."""
        self._check_index(index)
        self._check_index(to)
        rules = list(self._rules)
        rule = rules.pop(index)
        rules.insert(to, rule)
        return self._with_rules(tuple(rules))

    def with_price(self, index, price):
        """The book with another price of a rule."""
        self._check_index(index)
        nonterminal, _, pattern = self._rules[index]
        return self._with_rules(self._rules[:index] + ((nonterminal, price, pattern),) + self._rules[index + 1:])

    def scaled(self, number):
        """The book with all prices times a number."""
        if not is_count(number):
            raise InvalidNumber(number)
        return self._with_rules(tuple([(word, price * number, pattern) for word, price, pattern in self._rules]))

    def ordered(self, order):
        """The book with its rules in another order, by a tuple of all their indices."""
        if not isinstance(order, tuple) or not all([is_count(index) for index in order]):
            raise InvalidOperation("no tuple of indices")
        if sorted(order) != list(range(len(self._rules))):
            raise InvalidOperation("not each index once")
        return self._with_rules(tuple([self._rules[index] for index in order]))

    def largest_first(self):
        """The book with the rules with the most operators in their patterns first."""
        sizes = []
        for index, rule in enumerate(self._rules):
            sizes.append((-len([word for word in rule[2] if word not in self._nonterminals]), index))
        return self._with_rules(tuple([self._rules[index] for _, index in sorted(sizes)]))

    def renamed(self, names):
        """The book with other names of operators and nonterminals."""
        self._check_names(names)
        arities = self._operators.arities
        rules = []
        for nonterminal, price, pattern in self._rules:
            rules.append((names[nonterminal], price, tuple([names[word] for word in pattern])))
        operators = Operators({names[word]: arities[word] for word in arities})
        return Book(operators, names[self._goal], tuple(rules))

    def __len__(self):
        return len(self._rules)

    def __iter__(self):
        return iter(self._lines)

    def __eq__(self, other):
        return isinstance(other, Book) and self._lines == other._lines

    def __str__(self):
        return f"book of {len(self._operators)} operators, {len(self._nonterminals)} nonterminals, {len(self)} rules"

    def _with_rules(self, rules):
        return Book(self._operators, self._goal, rules)

    def _check_index(self, index):
        if not is_count(index) or index >= len(self._rules):
            raise InvalidNumber(index)

    def _check_names(self, names):
        own = (*self._operators.names, *self._nonterminals)
        if not isinstance(names, dict) or len(names) != len(own) or not all([word in names for word in own]):
            raise InvalidOperation("not a name for each operator and nonterminal")
        if not all([is_name(names[word]) for word in own]) or len({names[word] for word in own}) < len(own):
            raise InvalidOperation("no names, or not different ones")
