"""Sessions side by side, as long as some order of them lets each see what it saw."""

from whatturns.asking import check_question, copy_of
from whatturns.errors import Full, InvalidChange, NoOrder
from whatturns.orders import Orders, Session

_MOST_SESSIONS = 6


class Room:
    """A copy of a store, and the sessions that entered, by their numbers."""

    def __init__(self, store):
        self._store = store.copy()
        self._sessions = {}
        self._order = ()
        self._next = 0

    @property
    def order(self):
        """The first right order of the sessions in the room."""
        return self._order

    def enter(self, asks, changes):
        """Let a session enter, and return its number."""
        for question, _ in asks:
            check_question(question, self._store.tables)
        for change in changes:
            if not self._store.is_change(change):
                raise InvalidChange(change)
        if len(self._sessions) >= _MOST_SESSIONS:
            raise Full()
        number = self._next
        sessions = {other: self._sessions[other] for other in self._sessions}
        sessions[number] = Session([(copy_of(question), answer) for question, answer in asks], tuple(changes))
        order, tree = Orders(sessions).first_right(tuple(sessions), self._store)
        if order is None:
            raise NoOrder(tree)
        self._sessions = sessions
        self._order = order
        self._next = number + 1
        return number

    def seal(self, count):
        """Make the changes of so many first sessions of the order in the store; they leave the room."""
        for number in self._order[:count]:
            for change in self._sessions[number].changes:
                self._store.do(change)
            del self._sessions[number]
        # What is left of the first right order is the first right one of the others from the store as it is now.
        self._order = self._order[count:]

    def snapshot(self):
        """A copy of the store without the sessions in the room."""
        return self._store.copy()
