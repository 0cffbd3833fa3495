"""A console: a store with a board and a guard over it, which is told what to do in words."""

from whatturns.boards import Board
from whatturns.commands import read_command
from whatturns.guards import Guard
from whatturns.stores import Store


class Console:
    """A store, the questions that stand, and the constraints."""

    def __init__(self, text):
        self._store = Store.read(text)
        self._board = Board(self._store)
        self._guard = Guard(self._store)

    def say(self, command):
        """Do what the command says, and return what there is to say of it."""
        word, *parts = read_command(command, self._store.tables)
        if word == "store":
            return self._store.text().replace("\n", " / ")
        if word == "rows":
            return _rows_text(self._store.rows_of(parts[0]))
        if word == "change":
            return self._make(parts[0])
        question = parts[-1]
        if word == "ask":
            return _rows_text(question.answer_in(self._store))
        if word == "stand":
            return str(self._board.stand(question))
        if word == "must":
            return str(self._guard.demand(question))
        return "yes" if self._turns(parts[0], question) else "no"

    def _make(self, change):
        """Make a change, if it is possible and not barred."""
        if not self._store.is_possible(change):
            return "nothing"
        numbers = self._guard.barred_by(change)
        if numbers:
            return _numbered("barred", numbers)
        self._guard.do(change)
        self._store.do(change)
        return _numbered("done", self._board.do(change))

    def _turns(self, change, question):
        """Whether the change turns the answer of the question now."""
        after = self._store.copy()
        after.do(change)
        return question.answer_in(after) != question.answer_in(self._store)


def _rows_text(rows):
    """The rows, their values separated by blanks, or the word none."""
    return "; ".join([" ".join([str(value) for value in row]) for row in rows]) or "none"


def _numbered(word, numbers):
    """The word and the numbers behind it."""
    return " ".join([word, *[str(number) for number in numbers]])
