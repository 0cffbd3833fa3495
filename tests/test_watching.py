"""Watches (point 17)."""

import random
import unittest

from tests.helpers import FREE, RICH, S, T, any_values, example_store, store_with
from tests.making import make_question, make_store, make_tables
from tests.naive import by_alias, naive_answer, naive_matches, value_of
from tests.test_effects import make_change
from whatturns.errors import InvalidChange, InvalidQuestion
from whatturns.questions import First, Groups, Question, Select, Union
from whatturns.stores import Store
from whatturns.turning import turners
from whatturns.watching import Watch

ONE = (("u", "t"),)


def told_rows(question, store):
    """For each match the row that it has, or the values by which it is grouped."""
    if isinstance(question, Union):
        return told_rows(question.first, store) + told_rows(question.second, store)
    if isinstance(question, First):
        return told_rows(question.select, store)
    columns = question.by if isinstance(question, Groups) else question.keep
    tables = {alias: store.table_of(name) for alias, name in question.uses}
    matches = [by_alias(question.uses, match) for match in naive_matches(question, store)]
    return [tuple(value_of(column, rows, tables) for column in columns) for rows in matches]


def rows_like(row):
    """Rows that are nearly this one, and are none of a match."""
    found = [(*row, "ann"), (*row, 0), (*row, None), (*row, []), (*row, {}), (*row, row), (row,)]
    for place, value in enumerate(row):
        for other in ([value], {value: value}, (value,), None, str(value) + "z", 10 ** 9):
            found.append(row[:place] + (other,) + row[place + 1:])
        if value in (0, 1):
            found.append(row[:place] + (bool(value),) + row[place + 1:])
    return found


class Drawn(unittest.TestCase):
    def check(self, watch, question, store):
        self.assertEqual((watch.answer, watch.matches), (naive_answer(question, store), naive_matches(question, store)))
        self.assertEqual(watch.snapshot(), store)
        rows = told_rows(question, store)
        for row in rows:
            self.assertEqual(watch.ways(row), rows.count(row))
            for other in rows_like(row):
                expected = sum(repr(other) == repr(found) for found in rows)
                self.assertEqual(watch.ways(other), expected, (question.text(), other))

    def test_many_calls(self):
        chance = random.Random(31)
        for number in range(250):
            tables = make_tables(chance)
            store = make_store(chance, tables, 3)
            question = make_question(chance, tables)
            watch = Watch(question, store)
            self.check(watch, question, store)
            kept = []
            for _ in range(8):
                changes = [make_change(chance, tables, store) for _ in range(chance.randint(0, 3))]
                changes = [change for change in changes if store.is_change(change)]
                expected = []
                for change in changes:
                    before = naive_matches(question, store)
                    store.do(change)
                    after = naive_matches(question, store)
                    expected.append((tuple(sorted(set(after) - set(before))), tuple(sorted(set(before) - set(after)))))
                found = watch.do(*changes)
                self.assertEqual(found, tuple(expected), question.text())
                kept.append((found, tuple(expected), watch.answer, naive_answer(question, store)))
                if number % 10 == 0:
                    self.check(watch, question, store)
            for found, expected, answer, told in kept:
                self.assertEqual((found, answer), (expected, told))
            self.check(watch, question, store)
            self.assertEqual(watch.turners().data(), turners(question, store).data())


class Watches(unittest.TestCase):
    def test_what_started_and_stopped(self):
        watch = Watch(FREE, example_store())
        self.assertEqual(watch.do(), ())
        self.assertEqual(watch.do(("delete", "s", ("ann", "cat")), ("insert", "s", ("bob", "x")),
                                  ("insert", "s", ("bob", "y")), ("replace", "t", ("ann", 5), ("zoe", 5))), (
            (((("ann", 5),),), ()), ((), ((("bob", 3),),)), ((), ()), (((("zoe", 5),),), ((("ann", 5),),))))
        self.assertEqual((watch.answer, watch.matches), ((("zoe",),), ((("zoe", 5),),)))

    def test_ways(self):
        store = store_with(T, S, t=[("ann", 5), ("ann", 7), ("bob", 1), ("cat", 0)], s=[("ann", "x")])
        select = Select(ONE, ("u.a",))
        self.assertEqual(Watch(select, store).ways(("ann",)), 2)
        self.assertEqual(Watch(select, store).ways(row=("bob",)), 1)
        self.assertEqual(Watch(select, store).ways(("zoe",)), 0)
        self.assertEqual(Watch(Union(select, RICH), store).ways(("ann",)), 4)
        first = First(Select(ONE, ("u.p",)), "u.p", 1)
        self.assertEqual((Watch(first, store).ways((7,)), Watch(first, store).answer), (1, ((0,),)))
        self.assertEqual(Watch(Groups(ONE, ("u.a",), having=(("count", ">=", 3),)), store).ways(("ann",)), 2)
        self.assertEqual(Watch(Groups(ONE), store).ways(()), 4)
        self.assertEqual(Watch(Groups(ONE), store).ways((4,)), 0)
        self.assertEqual(Watch(Select(ONE, ("u.a",), (("u.p", ">=", 100),)), store).ways(()), 0)

    def test_ways_of_bools_and_of_rows_with_anything_in_them(self):
        numbers = Select(ONE, ("u.p",))
        watch = Watch(numbers, store_with(T, t=[("ann", 1), ("bob", 0), ("cat", 1)]))
        self.assertEqual([watch.ways((1,)), watch.ways((True,)), watch.ways((0,)), watch.ways((False,))], [2, 0, 1, 0])
        for thing in any_values():
            self.assertEqual(watch.ways((thing, thing)), 0)
            expected = {0: 1, 1: 2}.get(thing, 0) if type(thing) is int else 0
            self.assertEqual(watch.ways((thing,)), expected)

    def test_turners_are_those_of_now(self):
        store = example_store()
        watch = Watch(RICH, store)
        before = watch.turners()
        watch.do(("delete", "t", ("ann", 5)))
        self.assertEqual(watch.turners().deletes("t"), ())
        self.assertEqual(before.deletes("t"), (("ann", 5),))
        self.assertEqual(before.data(), turners(RICH, store).data())

    def test_nothing_is_shared(self):
        store = example_store()
        question = Select(ONE, ("u.a",), (("u.p", ">=", 4),))
        watch = Watch(question, store)
        store.do(("insert", "t", ("cat", 9)))
        self.assertEqual((watch.answer, watch.snapshot()), ((("ann",),), example_store()))
        watch.do(("delete", "t", ("ann", 5)))
        self.assertEqual(len(store), 4)
        copied = watch.snapshot()
        copied.do(("insert", "t", ("dog", 9)))
        self.assertEqual((watch.answer, len(watch.snapshot())), ((), 2))
        question.where = ()
        self.assertEqual(watch.do(("insert", "t", ("eve", 1)), ("insert", "t", ("eve", 4))),
                         (((), ()), (((("eve", 4),),), ())))

    def test_what_was_returned_stays_as_it_was(self):
        watch = Watch(RICH, example_store())
        answer, matches, copied = watch.answer, watch.matches, watch.snapshot()
        watch.do(("insert", "t", ("cat", 9)), ("delete", "t", ("ann", 5)))
        self.assertEqual((answer, matches, copied), ((("ann",),), ((("ann", 5),),), example_store()))
        self.assertEqual(watch.answer, (("cat",),))


class Errors(unittest.TestCase):
    def test_questions(self):
        for thing in [*any_values(), Select(ONE, ("u.z",))]:
            if not (isinstance(thing, Question) and thing.fits(T, S)):
                self.assertRaises(InvalidQuestion, Watch, thing, example_store())
        self.assertEqual(Watch(store=Store(T), question=RICH).answer, ())

    def test_changes_are_all_checked_before_any_is_made(self):
        watch = Watch(RICH, example_store())
        for thing in [("insert", "t", ("ann", True)), ("insert", "x", ("ann", 1)), *any_values()]:
            with self.assertRaises(InvalidChange) as caught:
                watch.do(("delete", "t", ("ann", 5)), thing, "another one")
            self.assertIs(caught.exception.change, thing)
        self.assertEqual((watch.snapshot(), watch.answer), (example_store(), (("ann",),)))
