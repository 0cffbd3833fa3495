"""Right orders of sessions, or the tree that shows that there is none."""

from whatturns.values import same


class Session:
    """What a session asked and saw, and its changes."""

    def __init__(self, asks, changes):
        self.asks = asks
        self.changes = changes

    def first_wrong(self, store):
        """The number of its first ask with another answer in the store, or None."""
        for number, (question, answer) in enumerate(self.asks):
            if not same(question.answer_in(store), answer):
                return number
        return None


class Orders:
    """Sessions by their numbers, ascending, and what is found out about beginnings of their orders."""

    def __init__(self, sessions):
        self.sessions = sessions
        self.trees = {}
        self.wrong = {}

    def first_right(self, numbers, store):
        """(order, None) with the first right order of the sessions with these numbers, or (None, tree)."""
        if not numbers:
            return (), None
        # Beginnings of the same sessions often leave the same store, and then the same tree.
        text = store.text()
        key = (numbers, text)
        if key in self.trees:
            return None, self.trees[key]
        branches = []
        for number in numbers:
            branch = self._first_wrong(number, store, text)
            if branch is None:
                order, branch = self._first_with(number, numbers, store)
                if order is not None:
                    return order, None
            branches.append((number, branch))
        self.trees[key] = tuple(branches)
        return None, self.trees[key]

    def _first_with(self, number, numbers, store):
        """The same of the orders that begin with the session with this number."""
        after = store.copy()
        for change in self.sessions[number].changes:
            after.do(change)
        others = tuple([other for other in numbers if other != number])
        order, tree = self.first_right(others, after)
        return (None, tree) if order is None else ((number, *order), None)

    def _first_wrong(self, number, store, text):
        key = (number, text)
        if key not in self.wrong:
            self.wrong[key] = self.sessions[number].first_wrong(store)
        return self.wrong[key]
