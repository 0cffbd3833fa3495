"""The matches of uses, conditions and withouts in a store."""

from whatturns.scopes import scope_of
from whatturns.values import compares


class Condition:
    """A condition of a question, made ready for a tuple with a row for each use."""

    def __init__(self, condition, scope):
        column, operator, operand = condition
        self.left = scope[column]
        self.operator = operator
        self.right = scope.get(operand)
        self.value = operand
        # The condition can be judged as soon as this use has its row.
        self.last = self.left.place if self.right is None else max(self.left.place, self.right.place)

    def holds(self, rows):
        """Whether it holds with these rows."""
        other = self.value if self.right is None else self.right.value_in(rows)
        return compares(self.left.value_in(rows), self.operator, other)


def matches_of(uses, where, without, store):
    """The matches in the store, ascending, of what is a body for its tables."""
    tables = store.tables
    found = lengthened((), uses, conditions_of(where, scope_of(uses, tables)), store)
    for inner, conditions in without:
        ready = conditions_of(conditions, scope_of(uses + inner, tables))
        found = [match for match in found if not lengthened(match, inner, ready, store)]
    return tuple(found)


def conditions_of(conditions, scope):
    """The conditions, made ready."""
    return [Condition(condition, scope) for condition in conditions]


def lengthened(start, uses, conditions, store):
    """All tuples that are the start and then a row for each use, for which all conditions hold; ascending."""
    found = [start] if _all_hold([ready for ready in conditions if ready.last < len(start)], start) else []
    for place, (_, name) in enumerate(uses, start=len(start)):
        due = [ready for ready in conditions if ready.last == place]
        rows = store.rows_of(name)
        found = [(*begun, row) for begun in found for row in rows if _all_hold(due, (*begun, row))]
    return found


def _all_hold(conditions, rows):
    for condition in conditions:
        if not condition.holds(rows):
            return False
    return True
