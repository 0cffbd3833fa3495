"""A question whose answer and matches are kept up to date while a store changes."""

from whatturns.asking import check_question, copy_of
from whatturns.differences import differences
from whatturns.errors import InvalidChange
from whatturns.keeping import kept_rows
from whatturns.turning import turners
from whatturns.values import is_number


class Watch:
    """A question and a copy of a store."""

    def __init__(self, question, store):
        check_question(question, store.tables)
        self._question = copy_of(question)
        self._store = store.copy()
        self._ask()

    @property
    def answer(self):
        """The answer now."""
        return self._answer

    @property
    def matches(self):
        """The matches now."""
        return self._matches

    def do(self, *changes):
        """Make the changes one after the other, and return for each the matches that started and that stopped."""
        for change in changes:
            if not self._store.is_change(change):
                raise InvalidChange(change)
        told = []
        for change in changes:
            before = self._matches
            if self._store.do(change)[0]:
                self._ask()
            told.append(differences(before, self._matches))
        return tuple(told)

    def ways(self, row):
        """The number of matches that have this row, or, of a groups, these values by which it is grouped."""
        # 1 and True are equal for Python, but a bool is in no row.
        if not all([isinstance(part, str) or is_number(part) for part in row]):
            return 0
        return kept_rows(self._question, self._matches, self._store.tables).count(row)

    def snapshot(self):
        """A copy of the store."""
        return self._store.copy()

    def turners(self):
        """The turners of the question now."""
        return turners(self._question, self._store)

    def _ask(self):
        """Keep the answer and the matches in the store as it is now."""
        self._answer = self._question.answer_in(self._store)
        self._matches = self._question.matches_in(self._store)
