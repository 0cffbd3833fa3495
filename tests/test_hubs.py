"""Hubs and replicas (point 22): letters exactly when they are due, and replicas that are never wrong."""

import random
import unittest

from tests.asking import sample_rows
from tests.helpers import FREE, RICH, S, T, any_values, example_store
from tests.making import make_question, make_store, make_tables
from tests.naive import naive_answer
from tests.test_effects import make_change
from whatturns.errors import InvalidChange, InvalidQuestion, NameTaken, UnknownReplica
from whatturns.hubs import Hub, Replica
from whatturns.questions import Question, Select
from whatturns.stores import Store
from whatturns.turning import turners

ONE = (("u", "t"),)
NAMES = ("far", "away", "moon", "sun")


class Book:
    """What the hub has to do, by asking again after each change."""

    def __init__(self, store):
        self.stores = [store.copy()]
        self.known = {}
        self.out = {}

    def enroll(self, name, question):
        self.known[name] = [question, None, None]
        self.out[name] = []
        self.write(name)

    def write(self, name):
        question, told, before = self.known[name]
        store, version = self.stores[-1], len(self.stores) - 1
        answer, data = naive_answer(question, store), turners(question, store).data()
        if told is None or told != (answer, data):
            old = set(told[0]) if told else set()
            came, gone = tuple(sorted(set(answer) - old)), tuple(sorted(old - set(answer)))
            self.out[name].append((name, version, before, came, gone, data))
            self.known[name] = [question, (answer, data), version]

    def do(self, change):
        after = self.stores[-1].copy()
        if not after.do(change)[0]:
            return False
        self.stores.append(after)
        for name in self.known:
            self.write(name)
        return True

    def letters(self):
        return tuple(letter for name in self.known for letter in self.out[name])


class Drawn(unittest.TestCase):
    def test_letters(self):
        chance = random.Random(91)
        self.reasons = {"answer": 0, "data": 0}
        for _ in range(60):
            tables = make_tables(chance)
            store = make_store(chance, tables, 3)
            hub, book = Hub(store), Book(store)
            for _ in range(30):
                deed = chance.random()
                if deed < 0.15:
                    self.check_enrolling(chance, hub, book, tables)
                elif deed < 0.3 and book.known:
                    name = chance.choice(list(book.known))
                    version = chance.randint(-1, len(book.stores) + 1)
                    self.assertIsNone(hub.heard(name, version))
                    book.out[name] = [letter for letter in book.out[name] if letter[1] > version]
                else:
                    change = make_change(chance, tables, book.stores[-1])
                    if book.stores[-1].is_change(change):
                        self.assertIs(hub.do(change), book.do(change))
                self.assertEqual(hub.letters(), book.letters())
                self.assertEqual(hub.version, len(book.stores) - 1)
            for _, _, before, came, gone, _ in hub.letters():
                if before is not None:
                    self.reasons["answer" if came or gone else "data"] += 1
        self.assertGreater(min(self.reasons.values()), 100)

    def check_enrolling(self, chance, hub, book, tables):
        name, question = chance.choice(NAMES), make_question(chance, tables)
        if name in book.known:
            with self.assertRaises(NameTaken) as caught:
                hub.enroll(name, question)
            self.assertEqual(caught.exception.name, name)
        else:
            self.assertIsNone(hub.enroll(name, question))
            book.enroll(name, question)

    def test_letters_that_are_lost_doubled_and_late(self):
        chance = random.Random(92)
        self.taken = self.refused = 0
        for _ in range(60):
            tables = make_tables(chance)
            store = make_store(chance, tables, 3)
            hub = Hub(store)
            questions = {name: make_question(chance, tables) for name in chance.sample(NAMES, 2)}
            replicas = {name: Replica(name, questions[name], *tables) for name in questions}
            for name in questions:
                hub.enroll(name, questions[name])
            stores, sent = [store.copy()], []
            for _ in range(25):
                change = make_change(chance, tables, stores[-1])
                if stores[-1].is_change(change) and hub.do(change):
                    stores.append(stores[-1].copy())
                    stores[-1].do(change)
                sent += [letter for letter in hub.letters() if chance.random() < 0.5]
                for letter in chance.sample(sent, min(len(sent), 6)):
                    self.check_taking(replicas, letter, hub, chance)
                for name in replicas:
                    self.check_replica(chance, replicas[name], questions[name], stores)
        self.assertGreater(self.taken, 300)
        self.assertGreater(self.refused, 1000)

    def check_taking(self, replicas, letter, hub, chance):
        for name, replica in replicas.items():
            due = name == letter[0] and replica.version == letter[2]
            before = (replica.version, replica.answer)
            self.assertIs(replica.take(letter), due)
            if due:
                self.taken += 1
                self.assertEqual(replica.version, letter[1])
                if chance.random() < 0.5:
                    hub.heard(name, replica.version)
            else:
                self.refused += 1
                self.assertEqual((replica.version, replica.answer), before)

    def check_replica(self, chance, replica, question, stores):
        if replica.version is None:
            self.assertIsNone(replica.answer)
            return
        store = stores[replica.version]
        answer = naive_answer(question, store)
        self.assertEqual(replica.answer, answer)
        for table in store.tables:
            rows = sample_rows(chance, table, store, 2)
            changes = [("insert", table.name, row) for row in rows]
            changes += [("delete", table.name, row) for row in store.rows_of(table.name)]
            changes += [("replace", table.name, old, row) for old in store.rows_of(table.name)[:2] for row in rows]
            for change in changes:
                after = store.copy()
                if after.do(change)[0]:
                    self.assertIs(replica.turns(change), naive_answer(question, after) != answer)

    def test_after_all_letters_a_replica_has_the_answer_of_now(self):
        chance = random.Random(93)
        for _ in range(60):
            tables = make_tables(chance)
            store = make_store(chance, tables, 3)
            hub, question = Hub(store), make_question(chance, tables)
            hub.enroll("far", question)
            replica = Replica("far", question, *tables)
            for _ in range(6):
                change = make_change(chance, tables, store)
                if store.is_change(change):
                    self.assertIs(hub.do(change), store.do(change)[0])
            self.assertTrue(all([replica.take(letter) for letter in hub.letters()]))
            self.assertEqual(replica.answer, naive_answer(question, store))
            hub.heard("far", replica.version)
            self.assertEqual(hub.letters(), ())


class Hubs(unittest.TestCase):
    def test_the_parts_of_a_letter(self):
        hub = Hub(store=example_store())
        self.assertEqual((hub.version, hub.letters()), (0, ()))
        hub.do(change=("insert", "t", ("cat", 4)))
        hub.enroll(replica="far", question=RICH)
        store = example_store()
        store.do(("insert", "t", ("cat", 4)))
        first = ("far", 1, None, (("ann",), ("cat",)), (), turners(RICH, store).data())
        self.assertEqual(hub.letters(), (first,))
        for change in [("insert", "s", ("bob", "dog")), ("replace", "t", ("ann", 5), ("dog", 6))]:
            self.assertIs(hub.do(change), True)
            store.do(change)
        self.assertEqual(hub.letters(), (
            first, ("far", 3, 1, (("dog",),), (("ann",),), turners(RICH, store).data())))

    def test_a_letter_for_data_alone(self):
        hub = Hub(example_store())
        hub.enroll("far", RICH)
        # There is a second way to have ann, so that the delete of the first one does not turn the answer any more.
        hub.do(("insert", "t", ("ann", 6)))
        self.assertEqual([letter[:5] for letter in hub.letters()], [("far", 0, None, (("ann",),), ()),
                                                                   ("far", 1, 0, (), ())])
        # Nothing that it asks for is in the other table.
        hub.do(("insert", "s", ("bob", "dog")))
        self.assertEqual((hub.version, len(hub.letters())), (2, 2))

    def test_changes_that_are_not_possible(self):
        hub = Hub(example_store())
        hub.enroll("far", RICH)
        letters = hub.letters()
        for change in [("insert", "t", ("ann", 5)), ("delete", "t", ("ann", 6)), ("insert", "s", ("ann", "dog"))]:
            self.assertIs(hub.do(change), False)
        self.assertEqual((hub.version, hub.letters()), (0, letters))

    def test_replicas_in_the_order_in_which_they_were_enrolled(self):
        hub = Hub(example_store())
        for name in ("sun", "far", "moon"):
            hub.enroll(name, RICH)
        hub.do(("delete", "t", ("ann", 5)))
        self.assertEqual([letter[:3] for letter in hub.letters()], [
            (name, version, before) for name in ("sun", "far", "moon") for version, before in ((0, None), (1, 0))])

    def test_heard(self):
        hub = Hub(example_store())
        hub.enroll("far", RICH)
        hub.enroll("sun", RICH)
        hub.heard("sun", 99)
        for name in ("cat", "dog", "eve"):
            hub.do(("insert", "t", (name, 9)))
        self.assertEqual([letter[:2] for letter in hub.letters()], [
            ("far", 0), ("far", 1), ("far", 2), ("far", 3), ("sun", 1), ("sun", 2), ("sun", 3)])
        hub.heard(replica="far", version=1)
        hub.heard("far", -5)
        hub.heard("sun", 2)
        self.assertEqual([letter[:2] for letter in hub.letters()], [("far", 2), ("far", 3), ("sun", 3)])
        hub.heard("far", 0)
        hub.heard("sun", 10 ** 12)
        self.assertEqual([letter[:2] for letter in hub.letters()], [("far", 2), ("far", 3)])
        # What was heard ahead of its time does not hold for letters that are made later.
        hub.do(("insert", "t", ("fox", 9)))
        self.assertEqual([letter[:2] for letter in hub.letters()], [("far", 2), ("far", 3), ("far", 4), ("sun", 4)])

    def test_nothing_is_shared(self):
        store, question = example_store(), Select(ONE, ("u.a",), (("u.p", ">=", 4),))
        hub = Hub(store)
        hub.enroll("far", question)
        question.where = ()
        store.do(("insert", "t", ("cat", 9)))
        letters = hub.letters()
        self.assertEqual(hub.letters(), letters)
        hub.do(("insert", "t", ("cat", 9)))
        self.assertEqual((len(letters), len(hub.letters())), (1, 2))


class Replicas(unittest.TestCase):
    def setUp(self):
        self.hub = Hub(example_store())
        self.hub.enroll("far", RICH)
        for name in ("cat", "dog"):
            self.hub.do(("insert", "t", (name, 9)))
        self.letters = self.hub.letters()
        self.replica = Replica("far", RICH, T, S)

    def test_before_the_first_letter(self):
        self.assertEqual((self.replica.version, self.replica.answer), (None, None))
        self.assertIsNone(self.replica.turns(change=("insert", "t", ("cat", 9))))
        self.assertEqual([self.replica.take(letter) for letter in self.letters[1:]], [False, False])
        self.assertEqual((self.replica.version, self.replica.answer), (None, None))

    def test_lost_doubled_and_late(self):
        first, second, third = self.letters
        found = [self.replica.take(letter=letter) for letter in (third, first, third, first, second, first, second,
                                                                 third)]
        self.assertEqual(found, [False, True, False, False, True, False, False, True])
        self.assertEqual((self.replica.version, self.replica.answer), (2, (("ann",), ("cat",), ("dog",))))

    def test_letters_of_others(self):
        other = Replica("sun", RICH, T, S)
        self.assertEqual([other.take(letter) for letter in self.letters], [False, False, False])
        self.assertIsNone(other.version)

    def test_any_values(self):
        first = self.letters[0]
        things = [*any_values(), first[:5], (*first, 0), list(first), (*first[1:], first[0])]
        things += [(value, *first[1:]) for value in any_values()]
        for _ in range(2):
            before = (self.replica.version, self.replica.answer)
            for thing in things:
                self.assertIs(self.replica.take(thing), False)
                self.assertEqual((self.replica.version, self.replica.answer), before)
            self.replica.take(first)

    def test_turns_at_its_version(self):
        self.replica.take(self.letters[0])
        self.assertIs(self.replica.turns(("insert", "t", ("cat", 9))), True)
        self.replica.take(self.letters[1])
        self.assertIs(self.replica.turns(("insert", "t", ("cat", 8))), False)
        self.assertIs(self.replica.turns(("delete", "t", ("cat", 9))), True)
        self.assertIs(self.replica.turns(("replace", "t", ("cat", 9), ("cat", 10))), False)
        self.assertIs(self.replica.turns(("replace", "t", ("bob", 3), ("eve", 10))), True)


class Errors(unittest.TestCase):
    def test_questions_ahead_of_names(self):
        hub = Hub(example_store())
        hub.enroll("far", RICH)
        for thing in [*any_values(), Select(ONE, ("u.z",))]:
            if not (isinstance(thing, Question) and thing.fits(T, S)):
                self.assertRaises(InvalidQuestion, hub.enroll, "far", thing)
                self.assertRaises(InvalidQuestion, hub.enroll, "sun", thing)
                self.assertRaises(InvalidQuestion, Replica, "far", thing, T, S)
        self.assertRaises(InvalidQuestion, Replica, "far", FREE, T)
        self.assertEqual(len(hub.letters()), 1)

    def test_names(self):
        hub = Hub(example_store())
        hub.enroll("far", RICH)
        with self.assertRaises(NameTaken) as caught:
            hub.enroll("far", FREE)
        self.assertEqual((caught.exception.name, len(hub.letters())), ("far", 1))
        for thing in ["sun", *any_values()]:
            with self.assertRaises(UnknownReplica) as caught:
                hub.heard(thing, 0)
            self.assertIs(caught.exception.name, thing)
        self.assertEqual(len(hub.letters()), 1)

    def test_changes(self):
        hub, replica = Hub(example_store()), Replica("far", RICH, T)
        for thing in [*any_values(), ("insert", "t", ("ann", True)), ("insert", "x", ("ann", 1))]:
            for method in (hub.do, replica.turns):
                with self.assertRaises(InvalidChange) as caught:
                    method(thing)
                self.assertIs(caught.exception.change, thing)
        self.assertRaises(InvalidChange, replica.turns, ("insert", "s", ("ann", "cat")))
        self.assertEqual(hub.version, 0)
        hub = Hub(Store(T))
        hub.enroll("far", RICH)
        self.assertIs(replica.take(hub.letters()[0]), True)
        self.assertRaises(InvalidChange, replica.turns, ("insert", "s", ("ann", "cat")))
