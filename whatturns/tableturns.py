"""Which single changes of one table turn an answer."""

from whatturns.forms import Form
from whatturns.grids import Grid
from whatturns.plans import links_names, tables_in, values_that_matter
from whatturns.verdicts import turned_worlds
from whatturns.worlds import (candidates_beside, candidates_in, impossible_worlds, worlds_after_deletes,
                              worlds_after_inserts, worlds_after_replaces)


class TableTurns:
    """The form of the inserts that turn the answer, and (row, deleted, form of the replaces) for each relevant row.

    The rows are those that are there, or None if that is not known.
    """

    def __init__(self, inserted, relevant, rows):
        self.inserted = inserted
        self.relevant_rows = relevant
        self.rows = rows

    def replaced(self, row):
        """The form of the replaces of a row."""
        for other, _, form in self.relevant_rows:
            if other == row:
                return form
        return self.inserted

    def data(self):
        """The trees of the forms, and what is told of the relevant rows."""
        rows = [(row, deleted, form.tree) for row, deleted, form in self.relevant_rows]
        return self.inserted.tree, tuple(rows)


def table_turns(plan, store, table):
    """What turns the answer of the question of this plan."""
    rows = store.rows_of(table.name)
    if table.name not in tables_in(plan):
        return TableTurns(Form.constant(table, False), (), rows)
    grid = Grid(table, values_that_matter(plan, store, table), links_names(plan, table))
    worlds = worlds_after_inserts(store, table, grid)
    candidates = [candidates_in(part.body, worlds) for part in plan.parts]
    inserted = grid.tree_of(turned_worlds(plan, worlds, candidates, impossible_worlds(worlds, table, ())))
    deleted = _deleted(plan, store, table)
    relevant = []
    for row in rows:
        replaced = grid.tree_of(_replaced(plan, worlds, candidates, table, row))
        if row in deleted or replaced != inserted:
            relevant.append((row, row in deleted, Form(table, replaced)))
    return TableTurns(Form(table, inserted), tuple(relevant), rows)


def _deleted(plan, store, table):
    """The rows whose delete turns the answer."""
    worlds = worlds_after_deletes(store, table)
    turned = turned_worlds(plan, worlds, [candidates_in(part.body, worlds) for part in plan.parts], 0)
    return [row for number, row in enumerate(store.rows_of(table.name)) if turned >> number & 1]


def _replaced(plan, worlds, candidates, table, row):
    """The cells of the rows by which the replace of this row turns the answer."""
    after = worlds_after_replaces(worlds, row)
    left = [candidates_beside(part.body, pairs, table.name, row) for part, pairs in zip(plan.parts, candidates)]
    return turned_worlds(plan, after, left, impossible_worlds(after, table, (row,)))


def read_table_turns(table, tree, rows):
    """The turns of a table from their data."""
    relevant = tuple([(row, deleted, Form(table, below)) for row, deleted, below in rows])
    return TableTurns(Form(table, tree), relevant, None)
