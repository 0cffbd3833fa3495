"""A store whose changes are told to replicas far away, as far as they turn what a replica knows."""

from whatturns.asking import check_question, copy_of
from whatturns.changes import is_change_of
from whatturns.differences import differences
from whatturns.errors import InvalidChange, NameTaken, UnknownReplica
from whatturns.turning import Turners, turners
from whatturns.values import same

_LETTER_PARTS = 6


class Outbox:
    """What a hub knows of a replica: its question, what the last letter told, and the letters on their way."""

    def __init__(self, name, question):
        self.name = name
        self.question = question
        self.told = None
        self.before = None
        self.letters_out = []

    def write(self, store, version):
        """Write a letter if the answer or the data of its turners are not those that the last letter told."""
        now = (self.question.answer_in(store), turners(self.question, store).data())
        if now == self.told:
            return
        came, gone = differences(() if self.told is None else self.told[0], now[0])
        self.letters_out.append((self.name, version, self.before, came, gone, now[1]))
        self.told = now
        self.before = version

    def arrived(self, version):
        """Forget the letters up to this version."""
        self.letters_out = [letter for letter in self.letters_out if letter[1] > version]


class Hub:
    """A copy of a store, the number of the changes that were made in it, and the replicas that hear of them."""

    def __init__(self, store):
        self._store = store.copy()
        self._version = 0
        self._outboxes = {}

    @property
    def version(self):
        """How many possible changes the hub has made."""
        return self._version

    def enroll(self, replica, question):
        """Enroll a replica with this name and this question."""
        check_question(question, self._store.tables)
        if replica in self._outboxes:
            raise NameTaken(replica)
        outbox = Outbox(replica, copy_of(question))
        outbox.write(self._store, self._version)
        self._outboxes[replica] = outbox

    def do(self, change):
        """Make a change, and return whether it was possible."""
        if not self._store.do(change)[0]:
            return False
        self._version = self._version + 1
        for name in self._outboxes:
            self._outboxes[name].write(self._store, self._version)
        return True

    def letters(self):
        """All letters that are not known to have arrived, by replicas in the order in which they were enrolled."""
        return tuple([letter for name in self._outboxes for letter in self._outboxes[name].letters_out])

    def heard(self, replica, version):
        """Hear that a replica has this version, so that its letters made so far, up to this version, have arrived."""
        if not isinstance(replica, str) or replica not in self._outboxes:
            raise UnknownReplica(replica)
        self._outboxes[replica].arrived(version)


class Replica:
    """The answer of a question in a store far away, as far as letters told it."""

    def __init__(self, name, question, *tables):
        check_question(question, tables)
        self._name = name
        self._tables = tables
        self._version = None
        self._answer = None
        self._turners = None

    @property
    def version(self):
        """The version of the letter that was taken last, or None."""
        return self._version

    @property
    def answer(self):
        """The answer at this version, or None."""
        return self._answer

    def take(self, letter):
        """Take a letter that is the next one for this replica, and return whether it was that."""
        if not isinstance(letter, tuple) or len(letter) != _LETTER_PARTS:
            return False
        name, version, before, came, gone, data = letter
        if name != self._name or not same(before, self._version):
            return False
        stayed, _ = differences(gone, self._answer or ())
        self._answer = tuple(sorted([*stayed, *came]))
        self._turners = Turners.read(data, *self._tables)
        self._version = version
        return True

    def turns(self, change):
        """Whether a possible change turns the answer, if it is made next; None without a letter."""
        if not is_change_of(change, self._tables):
            raise InvalidChange(change)
        return None if self._turners is None else self._turners.turns(change)
