"""Changes of a store: which values are such, when one is possible, and what rows there are after it."""

from whatturns.tables import table_named

_LENGTHS = {"insert": 3, "delete": 3, "replace": 4}


def changed_parts(thing, tables):
    """(table, rows) of what looks like a change of one of the tables, whatever stands there for rows, or None."""
    if not isinstance(thing, tuple) or len(thing) < 3:
        return None
    kind, name, *rows = thing
    if not isinstance(kind, str) or _LENGTHS.get(kind) != len(thing):
        return None
    table = table_named(name, tables)
    return None if table is None else (table, rows)


def is_change_of(thing, tables):
    """Whether it is a change of one of the tables."""
    parts = changed_parts(thing, tables)
    if parts is None:
        return False
    table, rows = parts
    return all([table.is_row(row) for row in rows])


def is_possible_in(change, table, rows):
    """Whether a change of the table is possible if these rows are there."""
    taken, put = _taken_and_put(change)
    left = [row for row in rows if row not in taken]
    if not all([row in rows for row in taken]):
        return False
    return not any([row in rows or _clashes(table, row, left) for row in put])


def rows_after(change, rows):
    """The rows of the changed table after a possible change, ascending."""
    taken, put = _taken_and_put(change)
    return tuple(sorted([row for row in rows if row not in taken] + put))


def _clashes(table, row, others):
    """Whether the row clashes with one of the others."""
    return any([table.clash(row, other) for other in others])


def _taken_and_put(change):
    """The list of the row that a change takes away and the list of the row that it puts there, each possibly empty."""
    kind, _, *rows = change
    if kind == "insert":
        return [], rows
    return rows[:1], rows[1:]
