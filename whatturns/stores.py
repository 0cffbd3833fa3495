"""Stores: tables with their rows, and the changes that are made in them."""

from whatturns.changes import is_change_of, is_possible_in, rows_after
from whatturns.errors import InvalidChange, InvalidStore, InvalidText, UnknownTable
from whatturns.storetexts import read_lines, row_line, shown_rows, table_line
from whatturns.tables import Table, table_named


class Store:
    """One to three tables with different names, and the rows that are there."""

    MOST = 3

    def __init__(self, *tables):
        if not 1 <= len(tables) <= Store.MOST or not all([isinstance(table, Table) for table in tables]):
            raise InvalidStore()
        if len({table.name for table in tables}) != len(tables):
            raise InvalidStore()
        self._tables = tables
        self._rows = {table.name: () for table in tables}

    @property
    def tables(self):
        """The tables, in order."""
        return self._tables

    def table_of(self, name):
        """The table with this name."""
        table = table_named(name, self._tables)
        if table is None:
            raise UnknownTable(name)
        return table

    def rows_of(self, name):
        """The rows of the table with this name, ascending."""
        return self._rows[self.table_of(name).name]

    def is_change(self, thing):
        """Whether it is a change of the tables of this store."""
        return is_change_of(thing, self._tables)

    def is_possible(self, change):
        """Whether the change is possible in the store as it is now."""
        if not self.is_change(change):
            raise InvalidChange(change)
        name = change[1]
        return is_possible_in(change, self.table_of(name), self.rows_of(name))

    def do(self, *changes):
        """Make the changes one after the other, and return for each whether it was possible."""
        for change in changes:
            if not self.is_change(change):
                raise InvalidChange(change)
        done = []
        for change in changes:
            done.append(self.is_possible(change))
            if done[-1]:
                self._rows[change[1]] = rows_after(change, self.rows_of(change[1]))
        return tuple(done)

    def copy(self):
        """Another store with the same tables and rows."""
        twin = Store(*self._tables)
        twin._rows = {name: self._rows[name] for name in self._rows}
        return twin

    def walk(self):
        """Yield (name, row) for each row, by the order of the tables, rows ascending."""
        for table in self._tables:
            for row in self._rows[table.name]:
                yield table.name, row

    def text(self):
        """The text of the store: a line for each table, each followed by the lines of its rows."""
        lines = []
        for table in self._tables:
            lines.append(table_line(table))
            lines.extend([row_line(row) for row in self._rows[table.name]])
        return "\n".join(lines)

    @staticmethod
    def read(text):
        """The store with this text; its rows may stand in any order there."""
        found = read_lines(text)
        tables = [table for table, _ in found]
        try:
            store = Store(*tables)
        except InvalidStore:
            raise InvalidText() from None
        for table, rows in found:
            changes = [("insert", table.name, row) for row in rows]
            if not all(store.do(*changes)):
                raise InvalidText()
        return store

    def shown(self, name):
        """The table with this name as lines with aligned columns."""
        return shown_rows(self.table_of(name), self.rows_of(name))

    def __len__(self):
        return len([row for table in self._tables for row in self._rows[table.name]])

    def __contains__(self, thing):
        if not isinstance(thing, tuple) or len(thing) != 2:
            return False
        table = table_named(thing[0], self._tables)
        return table is not None and table.is_row(thing[1]) and thing[1] in self._rows[table.name]

    def __eq__(self, other):
        return isinstance(other, Store) and self._tables == other._tables and self._rows == other._rows
