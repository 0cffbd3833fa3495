"""Questions taken apart, for the question which changes turn their answers in a store as it is now."""

from whatturns.matching import Body
from whatturns.questions import First, Groups, Union
from whatturns.scopes import scope_of


class Part:
    """A body with the spots of its kept columns, or of the columns by which its matches are grouped."""

    def __init__(self, uses, where, without, columns, tables):
        scope = scope_of(uses, tables)
        self.body = Body(uses, where, without, tables)
        self.told = [scope[column] for column in columns]


class RowsPlan:
    """A select, a union or a first: its parts, its answer, and a bound for the rows that would be in the answer."""

    def __init__(self, parts, answer):
        self.parts = parts
        self.before = answer
        self.bound = None

    def cut(self, place, count, falling):
        """Set the bound (place, operator, number) of a first that keeps so many rows by the value at the place."""
        # Rows beyond the last one of the answer stay out of it only if the answer has enough rows without them.
        if len(self.before) >= count:
            numbers = [row[place] for row in self.before]
            self.bound = (place, ">=", min(numbers)) if falling else (place, "<=", max(numbers))

    def compared(self):
        """(spot, values) for what the columns of rows are compared with, beside the conditions."""
        return [(spot, [row[place] for row in self.before]) for part in self.parts
                for place, spot in enumerate(part.told)]


class GroupsPlan:
    """A groups: its part, its bounds, and the measures of the groups in its answer, by their values."""

    def __init__(self, part, least, greatest, having, answer):
        self.parts = [part]
        self.least = least
        self.greatest = greatest
        self.having = having
        width = len(part.told)
        self.measures = {row[:width]: row[width:] for row in answer}

    def compared(self):
        """(spot, values) for what the columns of rows are compared with, beside the conditions."""
        measured = [spot for spot in (self.least, self.greatest) if spot is not None]
        return [(spot, [number for _, _, number in self.having]) for spot in measured]


def plan_of(question, store):
    """The plan of a question, which fits the tables of the store."""
    tables = store.tables
    answer = question.answer_in(store)
    if isinstance(question, Groups):
        scope = scope_of(question.uses, tables)
        part = Part(question.uses, question.where, question.without, question.by, tables)
        return GroupsPlan(part, scope.get(question.least), scope.get(question.greatest), question.having, answer)
    if isinstance(question, Union):
        return RowsPlan([_select_part(question.first, tables), _select_part(question.second, tables)], answer)
    if isinstance(question, First):
        plan = RowsPlan([_select_part(question.select, tables)], answer)
        plan.cut(question.select.keep.index(question.by), question.count, question.falling)
        return plan
    return RowsPlan([_select_part(question, tables)], answer)


def _select_part(select, tables):
    return Part(select.uses, select.where, select.without, select.keep, tables)


def tables_in(plan):
    """The names of the tables that the question mentions."""
    bodies = [part.body for part in plan.parts]
    outer = [name for body in bodies for _, name in body.uses]
    return outer + [name for body in bodies for part in body.withouts for _, name in part.uses]


def conditions_in(plan):
    """All conditions of the question, those of its withouts too."""
    bodies = [part.body for part in plan.parts]
    inner = [ready for body in bodies for part in body.withouts for ready in part.ready]
    return [ready for body in bodies for ready in body.ready] + inner


def values_that_matter(plan, store, table):
    """For each column of the table a list of the values with which that of a row may be compared."""
    values = [list(here) for here in _by_columns(table, store.rows_of(table.name))]
    pairs = plan.compared()
    for ready in conditions_in(plan):
        if ready.right is None:
            pairs.append((ready.left, [ready.value]))
        else:
            pairs.append((ready.left, _column_values(ready.right, store)))
            pairs.append((ready.right, _column_values(ready.left, store)))
    for spot, others in pairs:
        if spot.table == table.name:
            values[spot.at].extend(others)
    if links_names(plan, table):
        values[:2] = [values[0] + values[1], values[0] + values[1]]
    return values


def links_names(plan, table):
    """Whether a condition may compare the one name column of a row with the other."""
    pairs = [(ready.left, ready.right) for ready in conditions_in(plan) if ready.right is not None]
    return any([left.table == table.name and right.table == table.name and left.at != right.at
                for left, right in pairs])


def _by_columns(table, rows):
    """For each column of the table the list of the values of the rows there."""
    return [[row[at] for row in rows] for at in range(len(table.columns))]


def _column_values(spot, store):
    """The values in the column of the spot."""
    return [row[spot.at] for row in store.rows_of(spot.table)]
