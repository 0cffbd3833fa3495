"""Turners: all single changes that turn the answer of a question in a store."""

from whatturns.asking import check_question
from whatturns.changes import is_change_of
from whatturns.errors import InvalidChange, UnknownRow, UnknownTable
from whatturns.plans import plan_of
from whatturns.tables import table_named
from whatturns.tableturns import asked_turns, read_turns


def turners(question, store):
    """The turners of the question in the store as it is now."""
    check_question(question, store.tables)
    return Turners(store.tables, plan_of(question, store), store.copy(), {})


class Turners:
    """For each table, which inserts, replaces and deletes turn the answer of a question."""

    def __init__(self, tables, plan, store, found):
        self._tables = tables
        self._plan = plan
        self._store = store
        self._found = found

    @staticmethod
    def read(data, *tables):
        """The turners from which this data came, of a question for these tables."""
        found = {}
        for table, (_, tree, rows) in zip(tables, data):
            found[table.name] = read_turns(table, tree, rows)
        return Turners(tables, None, None, found)

    def inserts(self, table):
        """The form that is true where the insert of the row is possible and turns the answer."""
        return self._turns_of(table).inserted

    def replaces(self, table, row):
        """The form that is true where the replace of this row is possible and turns the answer."""
        found = self._turns_of(table)
        if self._store is not None and (table, row) not in self._store:
            raise UnknownRow(row)
        return found.replaced(row)

    def deletes(self, table):
        """The rows whose delete turns the answer, ascending."""
        return self._turns_of(table).deleted_rows()

    def relevant(self, table):
        """The rows whose delete turns the answer, or whose replaces turn it where inserts do not, or the reverse."""
        return tuple([row for row, _, _ in self._turns_of(table).relevant_rows()])

    def turns(self, change):
        """Whether a possible change turns the answer."""
        if not is_change_of(change, self._tables):
            raise InvalidChange(change)
        if self._store is not None and not self._store.is_possible(change):
            return False
        kind, table, *rows = change
        if kind == "delete":
            return rows[0] in self.deletes(table)
        form = self.inserts(table) if kind == "insert" else self.replaces(table, rows[0])
        return form(rows[-1])

    def data(self):
        """For each table, in order, its name, the tree of its inserts, and what is told of its relevant rows."""
        return tuple([(table.name, self.inserts(table.name).tree, self._told_rows(table.name))
                      for table in self._tables])

    def _told_rows(self, name):
        """(row, deleted, tree) for each relevant row, ascending."""
        return tuple([(row, deleted, form.tree) for row, deleted, form in self._turns_of(name).relevant_rows()])

    def _turns_of(self, name):
        """What turns the answer in the table with this name, a value of any kind."""
        table = table_named(name, self._tables)
        if table is None:
            raise UnknownTable(name)
        if table.name not in self._found:
            self._found[table.name] = asked_turns(self._plan, self._store, table)
        return self._found[table.name]
