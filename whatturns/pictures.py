"""Pictures: values for terms with which facts are true, or a chain of the facts that cannot be."""

from whatturns.paths import name_of
from whatturns.tables import is_name
from whatturns.values import is_number


class Picture:
    """Facts, with a chain of them that cannot be, or, if the chain is None, with a value for each term.

    With the values all facts are true, but perhaps some that numbers are not equal. The terms of names and of numbers
    are given, and have values even if no fact speaks of them.
    """

    def __init__(self, facts, names, numbers):
        self.facts = facts
        self.heads = {}
        self.known = {}
        self.chain = self._clash_of_equals() or self._clash_of_levels(numbers)
        if self.chain is None:
            self._name_all(names)

    def is_true(self, fact):
        """Whether a fact of a branch, which is never one with `<=`, is true with these values."""
        one, operator, other = fact
        left, right = self.value_of(one), self.value_of(other)
        if operator == "<":
            return left < right
        return (left == right) == (operator == "=")

    def value_of(self, term):
        """The value of a term."""
        return self.known.get(term, term)

    def _clash_of_equals(self):
        """Facts that two names are equal, or that equal terms are not equal; otherwise None."""
        for one, operator, other in self.facts:
            left, right = self._head_of(one), self._head_of(other)
            if operator == "=" and left != right:
                if is_name(left) and is_name(right):
                    return equal_chain(self.facts, left, right)
                self._join(left, right)
        for fact in self.facts:
            one, operator, other = fact
            if operator == "!=" and self._head_of(one) == self._head_of(other):
                return [*equal_chain(self.facts, one, other), fact]
        return None

    def _head_of(self, term):
        """A term that is the same one for all equal terms, a name if there is one."""
        return self.heads.get(term, term)

    def _join(self, left, right):
        """Give two classes of equal terms one head."""
        kept, left_out = (left, right) if is_name(left) else (right, left)
        for term in list(self.heads):
            if self.heads[term] == left_out:
                self.heads[term] = kept
        self.heads[left_out] = kept

    def _clash_of_levels(self, numbers):
        """Facts that lead upwards to no more than where they began; otherwise None, and each number has its level."""
        links = _links_of([fact for fact in self.facts if fact[0] in numbers or is_number(fact[0])])
        self.known = _first_levels([*numbers, *[term for one, other, _, _ in links for term in (one, other)]])
        came = {}
        rising = True
        while rising:
            rising = False
            for one, other, step, fact in links:
                level = self.known[one] + step
                if level > self.known[other]:
                    start, chain = _risen_from(one, other, came)
                    # Terms begin so low that only a chain from another integer leads above an integer.
                    if start == other or is_number(other):
                        return [*chain, fact]
                    self.known[other] = level
                    came[other] = (one, fact)
                    rising = True
        return None

    def _name_all(self, names):
        """Give each term of names its value: a name of its own, if no facts say that it is equal to another term."""
        terms = [term for one, _, other in self.facts for term in (one, other)]
        taken = {term: True for term in [*names, *terms] if is_name(term)}
        number = 0
        for term in names:
            head = self._head_of(term)
            if not is_name(head) and head not in self.known:
                while name_of(number) in taken:
                    number = number + 1
                self.known[head] = name_of(number)
                number = number + 1
            self.known[term] = self.known.get(head, head)


def equal_chain(facts, start, goal):
    """Facts that are a chain of equal terms from the start to the goal, which are equal by these facts."""
    came = {start: None}
    queue = [start]
    while goal not in came:
        term = queue.pop(0)
        for fact in facts:
            if fact[1] == "=" and term in (fact[0], fact[2]):
                other = fact[2] if fact[0] == term else fact[0]
                if other not in came:
                    came[other] = (term, fact)
                    queue.append(other)
    _, chain = _risen_from(goal, start, came)
    return chain


def _risen_from(term, start, came):
    """(term, facts) for where the term came from, not further back than the start, with the facts on the way."""
    chain = []
    while term != start and term in came:
        term, fact = came[term]
        chain.append(fact)
    return term, chain[::-1]


def _links_of(facts):
    """(term, other, step, fact) for what the facts say: the other one is at least as many steps above the term."""
    links = []
    for fact in facts:
        one, operator, other = fact
        if operator != "!=":
            links.append((one, other, 1 if operator == "<" else 0, fact))
        if operator == "=":
            links.append((other, one, 0, fact))
    return links


def _first_levels(terms):
    """Each integer itself, and numbers far below all of them for the other terms, far from one another."""
    level = min([term for term in terms if is_number(term)], default=0)
    levels = {}
    for term in terms:
        if is_number(term):
            levels[term] = term
        elif term not in levels:
            level = level - len(terms) - 2
            levels[term] = level
    return levels
