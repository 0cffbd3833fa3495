"""The least choice with which a wish is true (point 20)."""

import itertools
import random
import unittest

from tests.helpers import FREE, RICH, S, T, any_values, example_store, store_with
from tests.making import make_select, make_store, make_tables
from tests.naive import naive_matches
from tests.test_effects import kept, make_change
from whatturns.choices import least_choice
from whatturns.errors import InvalidChange, InvalidQuestion
from whatturns.questions import First, Groups, Select, Union

ONE = (("u", "t"),)
ALL = Select(ONE, ("u.a",))


def naive_choice(question, store, menu, row):
    """All choices of at most four changes are tried, first by length and then as tuples."""
    bars = []
    for length in range(5):
        for choice in itertools.combinations(range(len(menu)), length):
            after = store.copy()
            for number in choice:
                after.do(menu[number])
            against = [match for match in naive_matches(question, after)
                       if row is None or kept(question, match, after) == row]
            if not against:
                return choice, tuple(bars)
            bars.append((choice, min(against)))
    return None, tuple(bars)


def make_menu(chance, tables, store, most):
    """Changes of any sort; some are possible only after others."""
    menu, after = [], store.copy()
    deleting = chance.random() < 0.4
    for _ in range(chance.randint(0, most)):
        change = make_change(chance, tables, chance.choice((store, after)))
        there = list(after.walk())
        if deleting and there:
            change = ("delete", *chance.choice(there))
        if store.is_change(change):
            menu.append(change)
            after.do(change)
    return tuple(menu)


class Drawn(unittest.TestCase):
    def test_beside_trying_all_choices(self):
        chance = random.Random(71)
        lengths, kinds = [], set()
        for _ in range(1000):
            tables = make_tables(chance)
            store = make_store(chance, tables, 4)
            question, wanted = make_select(chance, tables)
            if chance.random() < 0.4:
                question = Union(question, make_select(chance, tables, wanted)[0])
            answer = question.answer_in(store)
            row = chance.choice((None, *answer)) if chance.random() < 0.9 else ("ann",) * len(wanted)
            menu = make_menu(chance, tables, store, 7)
            text = store.text()
            found = least_choice(question, store, menu, row)
            self.assertEqual(found, naive_choice(question, store, menu, row), (question.text(), text, menu, row))
            self.assertEqual(store.text(), text)
            lengths.append(None if found[0] is None else len(found[0]))
            kinds.add((type(question).__name__, row is None, found[0] is None))
        self.assertEqual(len(kinds), 8)
        for length, least in [(None, 100), (0, 50), (1, 50), (2, 15), (3, 3)]:
            self.assertGreaterEqual(lengths.count(length), least, length)


class Choices(unittest.TestCase):
    def test_four_changes_are_the_most(self):
        rows = [("ann", 1), ("ann", 2), ("ann", 3), ("ann", 4), ("ann", 5)]
        store = store_with(T, t=rows[:4])
        menu = tuple(("delete", "t", row) for row in rows)
        choice, bars = least_choice(ALL, store, menu)
        self.assertEqual((choice, len(bars)), ((0, 1, 2, 3), 1 + 5 + 10 + 10))
        store = store_with(T, t=rows)
        choice, bars = least_choice(ALL, store, menu, ("ann",))
        self.assertEqual((choice, len(bars)), (None, 1 + 5 + 10 + 10 + 5))
        self.assertEqual(bars[0], ((), (("ann", 1),)))
        self.assertEqual(bars[-1], ((1, 2, 3, 4), (("ann", 1),)))
        self.assertEqual([choice for choice, _ in bars], sorted([choice for choice, _ in bars], key=lambda found: (
            len(found), found)))

    def test_ten_changes(self):
        store = store_with(T, t=[("ann", 1)])
        menu = tuple(("insert", "t", ("bob", number)) for number in range(10))
        choice, bars = least_choice(ALL, store, menu)
        self.assertEqual((choice, len(bars)), (None, 1 + 10 + 45 + 120 + 210))

    def test_changes_that_are_possible_only_after_others(self):
        store = store_with(T, S, t=[("ann", 1)], s=[("ann", "cat")])
        # The key of s has to be free before the row can come.
        menu = (("delete", "s", ("ann", "cat")), ("insert", "s", ("ann", "dog")))
        question = Select(ONE, ("u.a",), (), (((("w", "s"),), (("w.b", "=", "u.a"), ("w.c", "=", "dog"))),))
        self.assertEqual(least_choice(question, store, menu)[0], (0, 1))
        self.assertEqual(least_choice(question, store, menu[::-1])[0], None)
        self.assertEqual([choice for choice, _ in least_choice(question, store, menu)[1]], [(), (0,), (1,)])

    def test_wishes_that_are_true_at_once(self):
        for row in [("zoe",), (), ("ann", "ann"), (5,), (None,), ([],), ({},), (("ann",),), (True,)]:
            self.assertEqual(least_choice(RICH, example_store(), (), row), ((), ()))
        self.assertEqual(least_choice(Select(ONE, ("u.a",), (("u.p", ">=", 9),)), example_store(), ()), ((), ()))

    def test_a_bool_is_no_number(self):
        store = store_with(T, t=[("ann", 1), ("bob", 0)])
        numbers = Select(ONE, ("u.p",))
        self.assertEqual(least_choice(numbers, store, (), (True,)), ((), ()))
        self.assertEqual(least_choice(numbers, store, (), (False,)), ((), ()))
        self.assertEqual(least_choice(numbers, store, (), (1,)), (None, (((), (("ann", 1),)),)))
        for thing in any_values():
            expected = (None, (((), (("ann", 1),)),)) if type(thing) is int and thing == 1 else ((), ())
            if type(thing) is int and thing == 0:
                expected = (None, (((), (("bob", 0),)),))
            self.assertEqual(least_choice(numbers, store, (), (thing,)), expected)

    def test_matches_of_unions(self):
        union = Union(RICH, FREE)
        menu = (("delete", "t", ("bob", 3)), ("delete", "t", ("ann", 5)))
        self.assertEqual(least_choice(union, example_store(), menu), (
            (0, 1), (((), (0, (("ann", 5),))), ((0,), (0, (("ann", 5),))), ((1,), (1, (("bob", 3),))))))
        self.assertEqual(least_choice(union, example_store(), menu, ("bob",)), ((0,), (((), (1, (("bob", 3),))),)))

    def test_names_of_parameters(self):
        found = least_choice(row=("ann",), menu=(("delete", "t", ("ann", 5)),), store=example_store(), question=RICH)
        self.assertEqual(found, ((0,), (((), (("ann", 5),)),)))


class Errors(unittest.TestCase):
    def test_a_first_and_a_groups_ahead_of_other_errors(self):
        first = First(Select(ONE, ("u.p",)), "u.p", 1)
        for question in (first, Groups(ONE)):
            for menu in ((), ("no change",)):
                self.assertRaises(InvalidQuestion, least_choice, question, example_store(), menu)

    def test_questions(self):
        for thing in [*any_values(), Select(ONE, ("u.z",)), Union(RICH, Select(ONE, ("u.p",)))]:
            if not (isinstance(thing, (Select, Union)) and thing.fits(T, S)):
                self.assertRaises(InvalidQuestion, least_choice, thing, example_store(), ("no change",), ("ann",))

    def test_changes(self):
        store = example_store()
        for thing in [*any_values(), ("insert", "t", ("ann", True)), ("insert", "x", ("ann", 1))]:
            with self.assertRaises(InvalidChange) as caught:
                least_choice(FREE, store, (("delete", "t", ("bob", 3)), thing, "another one"))
            self.assertIs(caught.exception.change, thing)
            # The wish is true at once; still the menu has to be one.
            self.assertRaises(InvalidChange, least_choice, FREE, store, (thing,), ("zoe",))
        self.assertEqual(store, example_store())
