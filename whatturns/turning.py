"""Turners: all single changes that turn the answer of a question in a store."""

from whatturns.asking import check_question
from whatturns.changes import is_change_of
from whatturns.errors import InvalidChange, UnknownRow, UnknownTable
from whatturns.plans import plan_of
from whatturns.tables import table_named
from whatturns.tableturns import read_table_turns, table_turns


def turners(question, store):
    """The turners of the question in the store as it is now."""
    check_question(question, store.tables)
    return Turners(store.tables, plan_of(question, store), store.copy(), {})


class Turners:
    """For each table, which inserts, replaces and deletes turn the answer of a question."""

    def __init__(self, tables, plan, store, found):
        self._tables = tables
        self._plan = plan
        self._store = store
        self._found = found

    @staticmethod
    def read(data, *tables):
        """The turners from which this data came, of a question for these tables."""
        found = {}
        for table, (_, tree, rows) in zip(tables, data):
            found[table.name] = read_table_turns(table, tree, rows)
        return Turners(tables, None, None, found)

    def inserts(self, table):
        """The form that is true where the insert of the row is possible and turns the answer."""
        return self._turns_of(table).inserted

    def replaces(self, table, row):
        """The form that is true where the replace of this row is possible and turns the answer."""
        found = self._turns_of(table)
        if found.rows is not None and not self._is_there(table, row):
            raise UnknownRow(row)
        return found.replaced(row)

    def deletes(self, table):
        """The rows whose delete turns the answer, ascending."""
        return tuple([row for row, deleted, _ in self._turns_of(table).relevant_rows if deleted])

    def relevant(self, table):
        """The rows whose delete turns the answer, or whose replaces turn it where inserts do not, or the reverse."""
        return tuple([row for row, _, _ in self._turns_of(table).relevant_rows])

    def turns(self, change):
        """Whether a possible change turns the answer."""
        if not is_change_of(change, self._tables):
            raise InvalidChange(change)
        kind, table, *rows = change
        if kind == "insert":
            return self.inserts(table)(rows[0])
        if kind == "delete":
            return rows[0] in self.deletes(table)
        return self._turns_of(table).replaced(rows[0])(rows[1])

    def data(self):
        """For each table, in order, its name, the tree of its inserts, and what is told of its relevant rows."""
        return tuple([(table.name, *self._turns_of(table.name).data()) for table in self._tables])

    def _is_there(self, name, thing):
        """Whether it is a row of the table that is there."""
        return table_named(name, self._tables).is_row(thing) and thing in self._turns_of(name).rows

    def _turns_of(self, name):
        """What turns the answer in the table with this name, a value of any kind."""
        table = table_named(name, self._tables)
        if table is None:
            raise UnknownTable(name)
        if table.name not in self._found:
            self._found[table.name] = table_turns(self._plan, self._store, table)
        return self._found[table.name]
