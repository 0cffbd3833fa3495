"""Many questions over one store, and which of them a change turns."""

from whatturns.asking import check_question, copy_of
from whatturns.errors import Full, UnknownNumber
from whatturns.forms import Form
from whatturns.turning import turners
from whatturns.values import is_number

_MOST_STANDING = 6


class Board:
    """A copy of a store, and the questions that stand, by their numbers."""

    def __init__(self, store):
        self._store = store.copy()
        self._standing = {}
        self._answers = {}
        self._turners = {}
        self._next = 0

    @property
    def questions(self):
        """(number, question) for each standing question, ascending."""
        return tuple([(number, self._standing[number]) for number in self._standing])

    def stand(self, question):
        """Put a question on the board, and return its number."""
        check_question(question, self._store.tables)
        if len(self._standing) >= _MOST_STANDING:
            raise Full()
        number = self._next
        self._next = number + 1
        self._standing[number] = copy_of(question)
        self._answers[number] = question.answer_in(self._store)
        return number

    def withdraw(self, number):
        """Take a question off the board."""
        if not is_number(number) or number not in self._standing:
            raise UnknownNumber(number)
        del self._standing[number]

    def form_of(self, table):
        """The form with, at each row, the numbers of the questions whose answers its insert turns."""
        nobody = Form.constant(self._store.table_of(table), ())
        numbers = list(self._standing)
        forms = [self._turners_of(number).inserts(table) for number in numbers]
        return nobody.joined(lambda leaves: tuple([told for told, turns in zip(numbers, leaves[1:]) if turns]), *forms)

    def turned_by(self, change):
        """The numbers of the questions whose answers the change turns."""
        return self._turned_in(self._answers_after(change))

    def do(self, change):
        """Make a change, and return the numbers of the questions whose answers it turned."""
        answers = self._answers_after(change)
        turned = self._turned_in(answers)
        self._store.do(change)
        self._answers = answers
        self._turners = {}
        return turned

    def snapshot(self):
        """A copy of the store."""
        return self._store.copy()

    def _answers_after(self, change):
        """The answers of the standing questions after a change."""
        after = self._store.copy()
        after.do(change)
        return {number: self._standing[number].answer_in(after) for number in self._standing}

    def _turned_in(self, answers):
        """The numbers of the questions whose answers are other ones than now."""
        return tuple([number for number in self._standing if answers[number] != self._answers[number]])

    def _turners_of(self, number):
        """The turners of a question in the store as it is now."""
        if number not in self._turners:
            self._turners[number] = turners(self._standing[number], self._store)
        return self._turners[number]
