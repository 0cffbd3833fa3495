"""The least match of a question in a store, found without looking at all matches."""

from whatturns.matching import Body, lengthened
from whatturns.questions import Union
from whatturns.scopes import scope_of
from whatturns.values import same


def least_match(question, store, row):
    """The least match of a select or a union that has this row, or of all if the row is None; None if there is none."""
    if not isinstance(question, Union):
        return LeastMatch(question, store, row).after(())
    for number, select in enumerate((question.first, question.second)):
        match = LeastMatch(select, store, row).after(())
        if match is not None:
            return number, match
    return None


class LeastMatch:
    """A select made ready for the search in a store; matches must have the row, if it is not None."""

    def __init__(self, select, store, row):
        scope = scope_of(select.uses, store.tables)
        self.store = store
        self.row = row
        self.body = Body(select.uses, select.where, select.without, store.tables)
        self.kept_spots = [scope[column] for column in select.keep]
        self.possible = row is None or len(row) == len(self.kept_spots)
        self.excluded = {}

    def after(self, rows):
        """The least match that begins with these rows, or None."""
        if len(rows) == len(self.body.uses):
            return None if self._is_excluded(rows) else rows
        place = len(rows)
        for row in self.store.rows_of(self.body.uses[place][1]):
            longer = (*rows, row)
            if self._may_be(longer, place):
                match = self.after(longer)
                if match is not None:
                    return match
        return None

    def _may_be(self, rows, place):
        """Whether the conditions and the kept columns that the row at this place completes are as they must be."""
        if not self.possible:
            return False
        due = [ready for ready in self.body.ready if ready.last == place]
        if not all([ready.holds(rows) for ready in due]):
            return False
        if self.row is None:
            return True
        pairs = [(spot, value) for spot, value in zip(self.kept_spots, self.row) if spot.place == place]
        return all([same(spot.value_in(rows), value) for spot, value in pairs])

    def _is_excluded(self, rows):
        """Whether a without excludes the rows."""
        for number, part in enumerate(self.body.withouts):
            # Rows that are the same in the columns that the without mentions are excluded together.
            key = (number, part.key_of(rows))
            if key not in self.excluded:
                self.excluded[key] = len(lengthened(rows, part.uses, part.ready, self.store)) > 0
            if self.excluded[key]:
                return True
        return False
