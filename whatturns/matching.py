"""The matches of uses, conditions and withouts in a store."""

from whatturns.scopes import scope_of
from whatturns.values import compares


class Condition:
    """A condition of a question, made ready for a tuple with a row for each use."""

    def __init__(self, condition, scope):
        column, operator, operand = condition
        self.left = scope[column]
        self.operator = operator
        self.right = scope.get(operand)
        self.value = operand
        # The condition can be judged as soon as this use has its row.
        self.last = max([spot.place for spot in self.spots()])

    def spots(self):
        """The spots of its columns."""
        return [self.left] if self.right is None else [self.left, self.right]

    def holds(self, rows):
        """Whether it holds with these rows."""
        other = self.value if self.right is None else self.right.value_in(rows)
        return compares(self.left.value_in(rows), self.operator, other)


class Without:
    """A without of a question, made ready for the matches of the uses outside it."""

    def __init__(self, uses, conditions, outside, tables):
        self.uses = uses
        self.ready = conditions_of(conditions, scope_of(outside + uses, tables))
        spots = [spot for ready in self.ready for spot in ready.spots()]
        self.outer = [spot for spot in spots if spot.place < len(outside)]

    def key_of(self, rows):
        """What is to be known of the rows outside; a row that is not known is None."""
        return tuple([None if rows[spot.place] is None else spot.value_in(rows) for spot in self.outer])


class Body:
    """The uses, conditions and withouts of a select or a groups, made ready."""

    def __init__(self, uses, where, without, tables):
        self.uses = uses
        self.ready = conditions_of(where, scope_of(uses, tables))
        self.withouts = [Without(inner, conditions, uses, tables) for inner, conditions in without]


def matches_of(uses, where, without, store):
    """The matches in the store, ascending, of what is a body for its tables."""
    body = Body(uses, where, without, store.tables)
    found = lengthened((), uses, body.ready, store)
    for part in body.withouts:
        found = _not_excluded(found, part, store)
    return tuple(found)


def conditions_of(conditions, scope):
    """The conditions, made ready."""
    return [Condition(condition, scope) for condition in conditions]


def lengthened(start, uses, conditions, store):
    """All tuples that are the start and then a row for each use, for which all conditions hold; ascending."""
    found = [start] if _all_hold([ready for ready in conditions if ready.last < len(start)], start) else []
    for place, (_, name) in enumerate(uses, start=len(start)):
        due = [ready for ready in conditions if ready.last == place]
        rows = store.rows_of(name)
        found = [(*begun, row) for begun in found for row in rows if _all_hold(due, (*begun, row))]
    return found


def _not_excluded(matches, part, store):
    """The matches that the without does not exclude."""
    left, excluded = [], {}
    for match in matches:
        # Matches that are the same in the columns that the without mentions are excluded together.
        key = part.key_of(match)
        if key not in excluded:
            excluded[key] = len(lengthened(match, part.uses, part.ready, store)) > 0
        if not excluded[key]:
            left.append(match)
    return left


def _all_hold(conditions, rows):
    for condition in conditions:
        if not condition.holds(rows):
            return False
    return True
