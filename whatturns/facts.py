"""Facts, tuples (term, operator, term), and which facts cannot all be true.

A term is a name, an integer, a parameter, or a column of a row that is not known.
"""

from whatturns.tables import is_name
from whatturns.values import is_number

_LINKS = ("=", "<=", "<")


def fact_of(one, operator, other):
    """The fact that a condition or a bound with these terms says."""
    return (other, "<=", one) if operator == ">=" else (one, operator, other)


def failing(fact):
    """The fact that this one is not true."""
    one, operator, other = fact
    if operator == "<=":
        return (other, "<", one)
    return (one, "!=" if operator == "=" else "=", other)


def is_fact(thing):
    """Whether it is a tuple of a term, a string and a term."""
    if not isinstance(thing, tuple) or len(thing) != 3:
        return False
    return isinstance(thing[1], str) and all([isinstance(term, str) or is_number(term) for term in thing[::2]])


def are_clashing(facts):
    """Whether the facts, one or more, are a chain in their order that cannot be true."""
    *others, (one, operator, other) = facts
    if operator == "!=":
        if any([link != "=" for _, link, _ in others]):
            return False
        ends = _chain_ends(others) if others else [(one, one)]
        return (one, other) in ends or (other, one) in ends
    steps = len([link for _, link, _ in facts if link == "<"])
    all_equal = all([link == "=" for _, link, _ in facts])
    return any([_cannot_be(first, last, steps, all_equal) for first, last in _chain_ends(facts)])


def _cannot_be(first, last, steps, all_equal):
    """Whether a chain with these ends, with so many steps upwards, cannot be true."""
    if is_number(first) and is_number(last):
        return last < first + steps
    if first == last:
        return steps > 0
    return all_equal and is_name(first) and is_name(last)


def _chain_ends(facts):
    """(first, last) for each way to read the facts as a chain from term to term."""
    if any([link not in _LINKS for _, link, _ in facts]):
        return []
    one, operator, other = facts[0]
    starts = [(one, other), (other, one)] if operator == "=" else [(one, other)]
    ends = [(first, _led_on(last, facts[1:])) for first, last in starts]
    return [(first, last) for first, last in ends if last is not None]


def _led_on(term, facts):
    """The term to which the facts lead from this one; None if they are no chain."""
    for one, operator, other in facts:
        if term == one:
            term = other
        elif term == other and operator == "=":
            term = one
        else:
            return None
    return term
