"""What a change does to an answer, and why (point 16)."""

import random
import unittest

from tests.asking import sample_rows
from tests.helpers import FREE, RICH, S, T, any_values, example_store, store_with
from tests.making import make_question, make_select, make_store, make_tables
from tests.naive import by_alias, choices, holds, naive_answer, naive_matches, naive_tables
from whatturns.effects import effect, reasons
from whatturns.errors import InvalidChange, InvalidQuestion
from whatturns.questions import First, Groups, Question, Select, Union

ONE = (("u", "t"),)


def make_change(chance, tables, store):
    """A change of any sort, mostly a possible one."""
    table = chance.choice(tables)
    rows = sample_rows(chance, table, store, 3)
    there = store.rows_of(table.name)
    old = chance.choice(there) if there and chance.random() < 0.9 else chance.choice(rows or [None])
    kind = chance.choice(("insert", "delete", "replace"))
    if kind == "insert":
        return ("insert", table.name, chance.choice(rows))
    return ("delete", table.name, old) if kind == "delete" else ("replace", table.name, old, chance.choice(rows))


def naive_effect(question, store, after):
    before, now = naive_answer(question, store), naive_answer(question, after)
    return tuple(sorted(set(now) - set(before))), tuple(sorted(set(before) - set(now)))


def kept(question, match, store):
    if isinstance(question, Union):
        return kept((question.first, question.second)[match[0]], match[1], store)
    rows = by_alias(question.uses, match)
    tables = naive_tables(question, store)
    return tuple(rows[column.split(".")[0]][tables[column.split(".")[0]].columns.index(column.split(".")[1])]
                 for column in question.keep)


def naive_reasons(question, store, after):
    def least(row, where):
        return min(match for match in naive_matches(question, where) if kept(question, match, where) == row)

    came, gone = naive_effect(question, store, after)
    return (tuple((row, least(row, after)) for row in came),
            tuple((row, least(row, store), naive_cause(question, least(row, store), after)) for row in gone))


def naive_cause(question, match, after):
    if isinstance(question, Union):
        return naive_cause((question.first, question.second)[match[0]], match[1], after)
    for place, (_, name) in enumerate(question.uses):
        if match[place] not in after.rows_of(name):
            return ("row", place)
    tables = naive_tables(question, after)
    for number, (uses, conditions) in enumerate(question.without):
        found = [rows for rows in choices(uses, after) if all(
            holds(condition, {**by_alias(question.uses, match), **by_alias(uses, rows)}, tables)
            for condition in conditions)]
        if found:
            return ("without", number, min(found))
    raise AssertionError("it is still a match")


class Drawn(unittest.TestCase):
    def test_effects(self):
        chance = random.Random(21)
        for _ in range(1500):
            tables = make_tables(chance)
            store = make_store(chance, tables, 3)
            question = make_question(chance, tables)
            change = make_change(chance, tables, store)
            if not store.is_change(change):
                continue
            after, text = store.copy(), store.text()
            possible = after.do(change)[0]
            found = effect(question, store, change)
            self.assertEqual(found, naive_effect(question, store, after), (question.text(), text, change))
            if not possible:
                self.assertEqual(found, ((), ()))
            self.assertEqual(store.text(), text)

    def test_reasons(self):
        chance = random.Random(22)
        causes = []
        while len([cause for cause in causes if cause[:2] == ("without", 1)]) < 4:
            tables = make_tables(chance)
            store = make_store(chance, tables, 3)
            question, kinds = make_select(chance, tables)
            if chance.random() < 0.4:
                question = Union(question, make_select(chance, tables, kinds)[0])
            for _ in range(6):
                change = make_change(chance, tables, store)
                if store.is_change(change):
                    after, text = store.copy(), store.text()
                    after.do(change)
                    found = reasons(question, store, change)
                    self.assertEqual(found, naive_reasons(question, store, after), (question.text(), text, change))
                    self.assertEqual(store.text(), text)
                    causes += [cause for _, _, cause in found[1]]
        self.assertGreater(len([cause for cause in causes if cause[0] == "without"]), 30)
        self.assertGreater(len([cause for cause in causes if cause == ("row", 1)]), 20)


class Effects(unittest.TestCase):
    def test_each_sort_of_change(self):
        store = example_store()
        self.assertEqual(effect(RICH, store, ("insert", "t", ("cat", 4))), ((("cat",),), ()))
        self.assertEqual(effect(RICH, store, ("insert", "t", ("ann", 4))), ((), ()))
        self.assertEqual(effect(RICH, store, ("delete", "t", ("ann", 5))), ((), (("ann",),)))
        self.assertEqual(effect(RICH, store, ("replace", "t", ("ann", 5), ("cat", 5))), ((("cat",),), (("ann",),)))
        self.assertEqual(effect(FREE, store, ("insert", "s", ("bob", "x"))), ((), (("bob",),)))
        self.assertEqual(effect(FREE, store, ("delete", "s", ("ann", "cat"))), ((("ann",),), ()))

    def test_changes_that_are_not_possible(self):
        store = example_store()
        for change in [("insert", "t", ("ann", 5)), ("delete", "t", ("ann", 6)), ("insert", "s", ("ann", "x")),
                       ("replace", "t", ("ann", 5), ("bob", 3)), ("replace", "t", ("ann", 5), ("ann", 5)),
                       ("replace", "t", ("zoe", 5), ("ann", 9))]:
            self.assertEqual(effect(RICH, store, change), ((), ()))
            self.assertEqual(reasons(RICH, store, change), ((), ()))

    def test_a_first_and_a_groups(self):
        store = example_store()
        first = First(Select(ONE, ("u.a", "u.p")), "u.p", 1)
        self.assertEqual(effect(first, store, ("insert", "t", ("cat", 1))), ((("cat", 1),), (("bob", 3),)))
        groups = Groups(ONE, (), (), (), "u.p")
        self.assertEqual(effect(groups, store, ("insert", "t", ("cat", 1))), (((3, 1),), ((2, 3),)))


class Reasons(unittest.TestCase):
    def test_the_least_match(self):
        store = store_with(T, t=[("ann", 5), ("ann", 7), ("bob", 1)])
        pairs = Select((("u", "t"), ("w", "t")), ("u.a",), (("u.a", "=", "w.a"), ("w.p", "!=", "u.p")))
        self.assertEqual(reasons(pairs, store, ("insert", "t", ("bob", 0))),
                         (((("bob",), (("bob", 0), ("bob", 1))),), ()))
        self.assertEqual(reasons(pairs, store, ("delete", "t", ("ann", 7))),
                         ((), ((("ann",), (("ann", 5), ("ann", 7)), ("row", 1)),)))
        self.assertEqual(reasons(pairs, store, ("delete", "t", ("ann", 5))),
                         ((), ((("ann",), (("ann", 5), ("ann", 7)), ("row", 0)),)))

    def test_a_row_that_two_uses_have(self):
        store = store_with(T, t=[("ann", 5)])
        pairs = Select((("u", "t"), ("w", "t")), ("u.a",))
        self.assertEqual(reasons(pairs, store, ("delete", "t", ("ann", 5))),
                         ((), ((("ann",), (("ann", 5), ("ann", 5)), ("row", 0)),)))

    def test_a_row_of_the_same_values_in_another_table(self):
        other = type(T)("o", ("a",), ("p",))
        store = store_with(T, other, t=[("ann", 5)], o=[("ann", 5)])
        pairs = Select((("u", "t"), ("w", "o")), ("u.a",))
        self.assertEqual(reasons(pairs, store, ("delete", "o", ("ann", 5)))[1][0][2], ("row", 1))
        self.assertEqual(reasons(pairs, store, ("delete", "t", ("ann", 5)))[1][0][2], ("row", 0))

    def test_a_row_goes_ahead_of_a_without(self):
        # The new row excludes the match, too; but its own row is not there any more.
        select = Select(ONE, ("u.a",), (), (((("x", "t"),), (("x.p", ">=", 9),)),))
        store = store_with(T, t=[("ann", 5), ("bob", 6)])
        self.assertEqual(reasons(select, store, ("replace", "t", ("ann", 5), ("cat", 9))), ((), (
            (("ann",), (("ann", 5),), ("row", 0)), (("bob",), (("bob", 6),), ("without", 0, (("cat", 9),))))))

    def test_the_first_without_and_its_least_rows(self):
        withouts = (((("w", "s"),), (("w.b", "=", "zoe"),)), ((("x", "t"), ("y", "s")), (("x.a", "=", "u.a"),)))
        select = Select(ONE, ("u.a",), (), withouts)
        store = store_with(T, S, t=[("ann", 5), ("ann", 2)])
        self.assertEqual(reasons(select, store, ("insert", "s", ("bob", "x")))[1], (
            (("ann",), (("ann", 2),), ("without", 1, (("ann", 2), ("bob", "x")))),))
        self.assertEqual(reasons(select, store, ("insert", "s", ("zoe", "x")))[1], (
            (("ann",), (("ann", 2),), ("without", 0, (("zoe", "x"),))),))

    def test_a_union(self):
        union = Union(RICH, FREE)
        store = example_store()
        self.assertEqual(reasons(union, store, ("insert", "s", ("bob", "x"))),
                         ((), ((("bob",), (1, (("bob", 3),)), ("without", 0, (("bob", "x"),))),)))
        self.assertEqual(reasons(union, store, ("insert", "t", ("cat", 9))), (((("cat",), (0, (("cat", 9),))),), ()))
        self.assertEqual(reasons(union, store, ("insert", "t", ("cat", 1))), (((("cat",), (1, (("cat", 1),))),), ()))
        self.assertEqual(reasons(Union(RICH, RICH), store, ("delete", "t", ("ann", 5))),
                         ((), ((("ann",), (0, (("ann", 5),)), ("row", 0)),)))
        self.assertEqual(reasons(union, store, ("delete", "s", ("ann", "cat"))), ((), ()))


class Errors(unittest.TestCase):
    def test_questions(self):
        change = ("insert", "t", ("cat", 4))
        for thing in [*any_values(), Select(ONE, ("u.z",))]:
            if not (isinstance(thing, Question) and thing.fits(T, S)):
                self.assertRaises(InvalidQuestion, effect, thing, example_store(), change)
                self.assertRaises(InvalidQuestion, effect, thing, example_store(), "no change")
                self.assertRaises(InvalidQuestion, reasons, thing, example_store(), "no change")

    def test_questions_of_other_kinds_have_no_reasons(self):
        first = First(Select(ONE, ("u.p",)), "u.p", 1)
        for question in (first, Groups(ONE), Union(first, RICH), Union(RICH, Select(ONE, ("u.p",)))):
            for change in (("insert", "t", ("cat", 4)), "no change", ("insert", "t", ("ann", 5))):
                self.assertRaises(InvalidQuestion, reasons, question, example_store(), change)

    def test_changes(self):
        store = example_store()
        for thing in [("insert", "t", ("ann", True)), ("insert", "x", ("ann", 1)), ("delete", "t"), *any_values()]:
            for function in (effect, reasons):
                with self.assertRaises(InvalidChange) as caught:
                    function(RICH, store, thing)
                self.assertIs(caught.exception.change, thing)
        self.assertEqual(store, example_store())

    def test_names_of_parameters(self):
        change = ("delete", "t", ("ann", 5))
        self.assertEqual(effect(change=change, store=example_store(), question=RICH), ((), (("ann",),)))
        self.assertEqual(len(reasons(change=change, store=example_store(), question=RICH)), 2)
