"""Which single changes of one table turn an answer: as it is asked, and as data tell it."""

from whatturns.forms import Form
from whatturns.grids import Grid
from whatturns.plans import links_names, tables_in, values_that_matter
from whatturns.verdicts import turned_worlds
from whatturns.worlds import (candidates_beside, candidates_in, impossible_worlds, worlds_after_deletes,
                              worlds_after_inserts, worlds_after_replaces)


class ToldTurns:
    """The form of the inserts that turn the answer, and (row, deleted, form of the replaces) for each relevant row."""

    def __init__(self, inserted, rows):
        self.inserted = inserted
        self.rows = rows

    def deleted_rows(self):
        """The rows whose delete turns the answer, ascending."""
        return tuple([row for row, deleted, _ in self.rows if deleted])

    def relevant_rows(self):
        """(row, deleted, form) for each relevant row, ascending."""
        return self.rows

    def replaced(self, row):
        """The form of the replaces of a row."""
        for other, _, form in self.rows:
            if other == row:
                return form
        return self.inserted


class AskedTurns:
    """What is found out of the question of a plan in a store; replaces and deletes as soon as they are asked for."""

    def __init__(self, plan, store, table):
        self.plan = plan
        self.store = store
        self.table = table
        self.rows = store.rows_of(table.name)
        self.grid = Grid(table, values_that_matter(plan, store, table), links_names(plan, table))
        self.worlds = worlds_after_inserts(store, table, self.grid)
        self.candidates = [candidates_in(part.body, self.worlds) for part in plan.parts]
        barred = impossible_worlds(self.worlds, table, ())
        self.inserted = self._form(turned_worlds(plan, self.worlds, self.candidates, barred))
        self.forms = {}
        self.deleted = None

    def deleted_rows(self):
        """The rows whose delete turns the answer, ascending."""
        if self.deleted is None:
            worlds = worlds_after_deletes(self.store, self.table)
            candidates = [candidates_in(part.body, worlds) for part in self.plan.parts]
            turned = turned_worlds(self.plan, worlds, candidates, 0)
            self.deleted = tuple([row for number, row in enumerate(self.rows) if turned >> number & 1])
        return self.deleted

    def relevant_rows(self):
        """(row, deleted, form) for each relevant row, ascending."""
        deleted = self.deleted_rows()
        told = [(row, row in deleted, self.replaced(row)) for row in self.rows]
        return tuple([(row, gone, form) for row, gone, form in told if gone or form != self.inserted])

    def replaced(self, row):
        """The form of the replaces of a row that is there."""
        if row not in self.forms:
            after = worlds_after_replaces(self.worlds, row)
            left = [candidates_beside(part.body, pairs, self.table.name, row)
                    for part, pairs in zip(self.plan.parts, self.candidates)]
            barred = impossible_worlds(after, self.table, (row,))
            self.forms[row] = self._form(turned_worlds(self.plan, after, left, barred))
        return self.forms[row]

    def _form(self, cells):
        """The form that is true in these cells of the grid alone."""
        return Form(self.table, self.grid.tree_of(cells))


def asked_turns(plan, store, table):
    """What turns the answer of the question of this plan."""
    if table.name in tables_in(plan):
        return AskedTurns(plan, store, table)
    return ToldTurns(Form.constant(table, False), ())


def read_turns(table, tree, rows):
    """What the data of turners tell of a table."""
    return ToldTurns(Form(table, tree), tuple([(row, deleted, Form(table, below)) for row, deleted, below in rows]))
