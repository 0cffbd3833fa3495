"""Rooms (point 21): sessions enter exactly if some order lets each see what it saw."""

import itertools
import random
import unittest

from tests.helpers import FREE, RICH, S, T, any_values, example_store, store_with
from tests.making import make_question, make_store, make_tables
from tests.naive import naive_answer
from tests.test_effects import make_change
from whatturns.errors import Full, InvalidChange, InvalidQuestion, NoOrder
from whatturns.questions import Question, Select
from whatturns.rooms import Room
from whatturns.stores import Store

ONE = (("u", "t"),)
NUMBERS = Select(ONE, ("u.p",))


def finds_all(session, store):
    return all(naive_answer(question, store) == answer for question, answer in session[0])


def naive_order(sessions, store):
    """The first right order, every order being tried; None if there is none."""
    for order in itertools.permutations(sorted(sessions)):
        after = store.copy()
        for number in order:
            if not finds_all(sessions[number], after):
                break
            after.do(*sessions[number][1])
        else:
            return order
    return None


def naive_tree(sessions, store):
    """The tree of a beginning after which the store is this one and these sessions are left."""
    branches = []
    for number in sorted(sessions):
        asks, changes = sessions[number]
        wrong = [place for place, (question, answer) in enumerate(asks) if naive_answer(question, store) != answer]
        if wrong:
            branches.append((number, wrong[0]))
        else:
            after = store.copy()
            after.do(*changes)
            branches.append((number,
                             naive_tree({other: sessions[other] for other in sessions if other != number}, after)))
    return tuple(branches)


def make_session(chance, tables, store, questions):
    """A session over a store that may have been; it saw what is there, or nearly so."""
    asks = []
    for _ in range(chance.choice((0, 1, 1, 2, 3))):
        question = chance.choice(questions)
        answer = question.answer_in(store)
        if chance.random() < 0.1:
            answer = answer[1:]
        asks.append((question, answer))
    changes = [make_change(chance, tables, store) for _ in range(chance.choice((0, 1, 1, 2, 4)))]
    return tuple(asks), tuple(change for change in changes if store.is_change(change))


class Drawn(unittest.TestCase):
    def test_beside_trying_all_orders(self):
        chance = random.Random(81)
        self.entered = self.refused = self.ahead = 0
        for _ in range(120):
            self.go_through_a_day(chance)
        self.assertGreater(self.entered, 400)
        self.assertGreater(self.refused, 40)
        self.assertGreater(self.ahead, 50)

    def go_through_a_day(self, chance):
        tables = make_tables(chance)
        store = make_store(chance, tables, 2)
        questions = [make_question(chance, tables) for _ in range(3)]
        room, sessions, given, base = Room(store), {}, 0, store.copy()
        for _ in range(12):
            if chance.random() < 0.1:
                order = naive_order(sessions, base)
                count = chance.randint(0, len(order))
                self.assertIsNone(room.seal(count))
                for number in order[:count]:
                    base.do(*sessions.pop(number)[1])
            # What the session saw was there after some beginning of an order of the others.
            seen = base.copy()
            for number in room.order[:chance.randint(0, len(sessions))]:
                seen.do(*sessions[number][1])
            session = make_session(chance, tables, seen, questions)
            given += self.check_entering(room, sessions, given, session, base)
            self.assertEqual(room.order, naive_order(sessions, base))
            self.assertEqual(room.snapshot(), base)

    def check_entering(self, room, sessions, number, session, base):
        together = {**sessions, number: session}
        if len(sessions) == 6:
            self.assertRaises(Full, room.enter, *session)
            return 0
        order = naive_order(together, base)
        if order is None:
            with self.assertRaises(NoOrder) as caught:
                room.enter(*session)
            self.assertEqual(caught.exception.tree, naive_tree(together, base))
            self.refused += 1
            return 0
        self.assertEqual(room.enter(*session), number)
        sessions[number] = session
        self.entered += 1
        self.ahead += order[-1] != number
        return 1

    def test_six_sessions_without_a_right_order(self):
        chance = random.Random(82)
        sizes = set()
        while len(sizes) < 12:
            tables = make_tables(chance)
            store = make_store(chance, tables, 2)
            questions = [make_question(chance, tables) for _ in range(2)]
            room, sessions = Room(store), {}
            for number in range(6):
                seen = store.copy()
                for other in room.order[:chance.randint(0, number)]:
                    seen.do(*sessions[other][1])
                session = make_session(chance, tables, seen, questions)
                if naive_order({**sessions, number: session}, store) is None:
                    with self.assertRaises(NoOrder) as caught:
                        room.enter(*session)
                    self.assertEqual(caught.exception.tree, naive_tree({**sessions, number: session}, store))
                    if number > 3:
                        sizes.add(len(repr(caught.exception.tree)))
                    break
                room.enter(*session)
                sessions[number] = session


class Rooms(unittest.TestCase):
    def test_an_empty_room(self):
        room = Room(store=example_store())
        self.assertEqual((room.order, room.seal(0), room.snapshot()), ((), None, example_store()))
        self.assertEqual(room.enter((), ()), 0)
        self.assertEqual(room.order, (0,))

    def test_sessions_ahead_of_earlier_ones(self):
        room = Room(example_store())
        saw = (RICH, (("ann",),))
        self.assertEqual(room.enter(asks=(saw,), changes=(("delete", "t", ("ann", 5)),)), 0)
        self.assertEqual(room.enter((saw,), (("insert", "t", ("zoe", 1)),)), 1)
        self.assertEqual(room.order, (1, 0))
        self.assertEqual(room.enter((), ()), 2)
        self.assertEqual(room.order, (1, 0, 2))
        self.assertEqual(room.enter(((NUMBERS, ((3,), (5,))),), ()), 3)
        self.assertEqual(room.order, (2, 3, 1, 0))

    def test_numbers_after_a_session_that_did_not_enter_and_after_seal(self):
        room = Room(example_store())
        for number in range(3):
            self.assertEqual(room.enter((), ()), number)
        self.assertRaises(NoOrder, room.enter, ((RICH, ()),), ())
        self.assertEqual(room.enter((), ()), 3)
        room.seal(count=4)
        self.assertEqual((room.order, room.enter((), ())), ((), 4))

    def test_the_tree(self):
        room = Room(store_with(T, t=[("ann", 1)]))
        room.enter(((NUMBERS, ((1,),)),), (("insert", "t", ("ann", 2)),))
        room.enter((), (("insert", "t", ("ann", 3)),))
        self.assertEqual(room.order, (0, 1))
        with self.assertRaises(NoOrder) as caught:
            room.enter(((NUMBERS, ((1,), (2,), (3,))), (RICH, (("ann",),))), ())
        self.assertEqual(caught.exception.tree, (
            (0, ((1, ((2, 1),)), (2, 0))), (1, ((0, 0), (2, 0))), (2, 0)))
        self.assertEqual(room.order, (0, 1))

    def test_seal(self):
        room = Room(example_store())
        room.enter(((RICH, (("ann",),)),), (("delete", "t", ("ann", 5)),))
        room.enter(((RICH, (("ann",),)),), (("insert", "t", ("bob", 1)), ("insert", "t", ("bob", 1))))
        room.enter(((RICH, ()),), (("insert", "s", ("bob", "dog")),))
        self.assertEqual(room.order, (1, 0, 2))
        room.seal(0)
        self.assertEqual((room.order, room.snapshot()), ((1, 0, 2), example_store()))
        room.seal(2)
        expected = store_with(T, S, t=[("bob", 1), ("bob", 3)], s=[("ann", "cat")])
        self.assertEqual((room.order, room.snapshot()), ((2,), expected))
        self.assertEqual(room.enter(((FREE, ()),), ()), 3)
        self.assertEqual(room.order, (2, 3))
        room.seal(2)
        self.assertEqual((room.order, len(room.snapshot())), ((), 4))

    def test_answers_that_are_none(self):
        room = Room(store_with(T, t=[("ann", 1)]))
        for thing in [*any_values(), ((True,),), [(1,)], ([1],), ((1,), (1,))]:
            if thing not in ((), [], {}):
                with self.assertRaises(NoOrder) as caught:
                    room.enter(((NUMBERS, thing),), ())
                self.assertEqual(caught.exception.tree, ((0, 0),))
        self.assertEqual(room.enter(((NUMBERS, ((1,),)),), ()), 0)

    def test_nothing_is_shared(self):
        store, question = example_store(), Select(ONE, ("u.a",), (("u.p", ">=", 4),))
        room = Room(store)
        room.enter(((question, (("ann",),)),), (("delete", "t", ("ann", 5)),))
        question.where = ()
        store.do(("delete", "t", ("ann", 5)))
        room.snapshot().do(("delete", "t", ("ann", 5)))
        self.assertEqual(room.snapshot(), example_store())
        order = room.order
        self.assertEqual(room.enter(((RICH, (("ann",),)),), ()), 1)
        self.assertEqual((order, room.order), ((0,), (1, 0)))
        room.seal(2)
        self.assertEqual((len(store), len(room.snapshot())), (2, 2))


class Errors(unittest.TestCase):
    def test_full_ahead_of_no_order(self):
        room = Room(example_store())
        for number in range(6):
            self.assertEqual(room.enter((), ()), number)
        self.assertRaises(Full, room.enter, (), ())
        self.assertRaises(Full, room.enter, ((RICH, ()),), ())
        self.assertRaises(InvalidQuestion, room.enter, ((None, ()),), ())
        self.assertRaises(InvalidChange, room.enter, (), (None,))
        self.assertEqual(room.order, (0, 1, 2, 3, 4, 5))
        room.seal(1)
        self.assertRaises(NoOrder, room.enter, ((RICH, ()),), ())
        self.assertEqual(room.enter((), ()), 6)

    def test_questions_ahead_of_changes(self):
        room = Room(example_store())
        for thing in [*any_values(), Select(ONE, ("u.z",))]:
            if not (isinstance(thing, Question) and thing.fits(T, S)):
                self.assertRaises(InvalidQuestion, room.enter, ((RICH, ()), (thing, ())), ("no change",))
        self.assertEqual(room.order, ())

    def test_changes(self):
        room = Room(example_store())
        for thing in [*any_values(), ("insert", "t", ("ann", True)), ("insert", "x", ("ann", 1))]:
            with self.assertRaises(InvalidChange) as caught:
                room.enter(((RICH, ()),), (("delete", "t", ("ann", 5)), thing, "another one"))
            self.assertIs(caught.exception.change, thing)
        self.assertEqual((room.order, room.snapshot()), ((), example_store()))
        self.assertRaises(InvalidChange, Room(Store(T)).enter, (), (("insert", "s", ("ann", "cat")),))
