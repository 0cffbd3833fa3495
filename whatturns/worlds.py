"""Many changes of a table at once: what holds after which of them, as the bits of an integer.

A world is the store after one change. After all inserts of a row, or after all replaces of one row, there is a world
for each cell of a grid, in which the row of that cell is new; after the deletes there is a world for each of them.
"""

from whatturns.values import compares

_TURNED_ROUND = {"=": "=", "!=": "!=", "<=": ">=", ">=": "<="}


class Worlds:
    """The worlds: a bit for each, and which rows are there in which of them; None stands for the new row."""

    def __init__(self, full, grid, name, present):
        self.full = full
        self.grid = grid
        self.name = name
        self.present = present

    def test(self, at, operator, value):
        """The worlds in which a column of the new row compares so with the value."""
        return self.grid.test(at, operator, value)

    def holds(self, ready, rows):
        """The worlds in which a condition holds with these rows."""
        left, right = ready.left, ready.right
        known = rows[left.place] is not None
        if right is None:
            other, other_known = ready.value, True
        else:
            other_known = rows[right.place] is not None
            other = right.value_in(rows) if other_known else None
        if known and other_known:
            return self.full if compares(left.value_in(rows), ready.operator, other) else 0
        if known:
            return self.grid.test(right.at, _TURNED_ROUND[ready.operator], left.value_in(rows))
        if other_known:
            return self.grid.test(left.at, ready.operator, other)
        if left.at != right.at:
            return self.grid.test_names(ready.operator)
        return 0 if ready.operator == "!=" else self.full

    def hold(self, conditions, rows):
        """For each condition the worlds in which it holds, if these are not all worlds; None if there are none."""
        found = []
        for ready in conditions:
            here = self.holds(ready, rows)
            if not here:
                return None
            if here != self.full:
                found.append(here)
        return found


def worlds_after_inserts(store, table, grid):
    """The worlds after the inserts of a row of each cell."""
    present = _present(store, grid.full)
    present[table.name].append((None, grid.full))
    return Worlds(grid.full, grid, table.name, present)


def worlds_after_replaces(worlds, row):
    """The worlds after the replaces of this row, from those after the inserts."""
    present = {name: worlds.present[name] for name in worlds.present}
    present[worlds.name] = [pair for pair in worlds.present[worlds.name] if pair[0] != row]
    return Worlds(worlds.full, worlds.grid, worlds.name, present)


def worlds_after_deletes(store, table):
    """The worlds after the deletes of each row of the table, in their order."""
    full = (1 << len(store.rows_of(table.name))) - 1
    present = _present(store, full)
    present[table.name] = [(row, full ^ 1 << number) for number, row in enumerate(store.rows_of(table.name))]
    return Worlds(full, None, None, present)


def _present(store, full):
    """All rows of the store, as such that are there everywhere."""
    return {table.name: [(row, full) for row in store.rows_of(table.name)] for table in store.tables}


def impossible_worlds(worlds, table, gone):
    """The worlds in which the new row is one that was there, or clashes with one that is there; gone are the others."""
    places = list(range(len(table.columns)))
    key_places = [place for place in places if table.columns[place] in table.key]
    barred = 0
    for row in gone:
        barred = barred | worlds.grid.row_cells(row, places)
    for row, _ in worlds.present[table.name]:
        if row is not None:
            barred = barred | worlds.grid.row_cells(row, key_places or places)
    return barred


def candidates_in(body, worlds):
    """(rows, worlds) for all tuples with a row for each use, and the worlds in which all conditions hold with them."""
    found = [((), worlds.full)]
    for place, (_, name) in enumerate(body.uses):
        due = [ready for ready in body.ready if ready.last == place]
        longer = []
        for begun, before in found:
            for row, there in worlds.present[name]:
                rows = (*begun, row)
                here = _within(before & there, worlds.hold(due, rows))
                if here:
                    longer.append((rows, here))
        found = longer
    return found


def candidates_beside(body, candidates, name, row):
    """The candidates that do not have this row of the table with this name."""
    places = [place for place, (_, table) in enumerate(body.uses) if table == name]
    return [(rows, here) for rows, here in candidates if not any([rows[place] == row for place in places])]


def _within(here, parts):
    """Those of these worlds that are in all parts; there are none if the parts are None."""
    if parts is None:
        return 0
    for part in parts:
        here = here & part
    return here


class Exclusions:
    """What the withouts of a body exclude in which worlds; it is kept, since it is asked for many matches alike."""

    def __init__(self, body, worlds):
        self.body = body
        self.worlds = worlds
        self.known = {}

    def left_of(self, rows, here):
        """Those of these worlds in which no without excludes the rows."""
        for number, part in enumerate(self.body.withouts):
            if not here:
                break
            key = (number, part.key_of(rows))
            if key not in self.known:
                self.known[key] = self._excluding(part, rows)
            here = here ^ (here & self.known[key])
        return here

    def _excluding(self, part, rows):
        """The worlds in which this without excludes the rows."""
        outside = [ready for ready in part.ready if ready.last < len(rows)]
        here = _within(self.worlds.full, self.worlds.hold(outside, rows))
        return self._joined_by(part, rows, here, 0) if here else 0

    def _joined_by(self, part, rows, here, found):
        """The worlds found, and those of these worlds in which rows for the remaining uses of the without join."""
        if len(rows) == len(self.body.uses) + len(part.uses):
            return found | here
        _, name = part.uses[len(rows) - len(self.body.uses)]
        due = [ready for ready in part.ready if ready.last == len(rows)]
        for row, there in self.worlds.present[name]:
            longer = (*rows, row)
            parts = self.worlds.hold(due, longer)
            if parts is not None:
                left = _within(here & there, parts)
                # Where it is known already nothing more is to be found.
                left = left ^ (left & found)
                if left:
                    found = self._joined_by(part, longer, left, found)
                if found == self.worlds.full:
                    break
        return found
