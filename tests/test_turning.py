"""Turners beside asking again in a changed copy (points 3 and 15)."""

import random
import unittest

from tests.asking import check_turners, sample_rows, turned
from tests.helpers import FREE, RICH, S, T, any_values, example_store, store_with
from tests.making import make_question, make_store, make_tables
from whatturns.errors import InvalidChange, InvalidQuestion, UnknownRow, UnknownTable
from whatturns.forms import Form
from whatturns.questions import First, Groups, Question, Select, Union
from whatturns.stores import Store
from whatturns.tables import Table
from whatturns.turning import Turners, turners

ONE = (("u", "t"),)
PAIR = Table("m", ("x", "y"), ("p", "q"))


class DrawnCases(unittest.TestCase):
    def test_questions_of_all_kinds_in_small_stores(self):
        chance = random.Random(15)
        for _ in range(1500):
            tables = make_tables(chance)
            check_turners(self, chance, make_question(chance, tables), make_store(chance, tables, 3), 8)

    def test_the_same_forms_in_any_order_of_changes(self):
        chance = random.Random(16)
        for _ in range(60):
            tables = make_tables(chance)
            store = make_store(chance, tables, 2)
            question = make_question(chance, tables)
            for _ in range(4):
                table = chance.choice(tables)
                rows = sample_rows(chance, table, store, 2)
                store.do(chance.choice([("insert", table.name, chance.choice(rows)),
                                        ("delete", table.name, chance.choice(rows)),
                                        ("replace", table.name, chance.choice(rows), chance.choice(rows))]))
                check_turners(self, chance, question, store, 3)
                anew = Store.read(store.text())
                self.assertEqual(turners(question, anew).data(), turners(question, store).data())


def put_otherwise(chance, select):
    """A select with the same meaning: other aliases, another order of conditions, some twice, some read backwards."""
    aliases = [alias for alias, _ in select.uses] + [alias for uses, _ in select.without for alias, _ in uses]
    new = dict(zip(aliases, chance.sample(["from", "keep", "as", "k", "l", "m", "n", "o"], len(aliases))))

    def column(text):
        alias, name = text.split(".")
        return f"{new[alias]}.{name}"

    def condition(one, operator, other):
        if not isinstance(other, str) or "." not in other:
            return column(one), operator, other
        if chance.random() < 0.5:
            return column(one), operator, column(other)
        return column(other), {"<=": ">=", ">=": "<="}.get(operator, operator), column(one)

    def conditions(found):
        again = [condition(*part) for part in found]
        again += [chance.choice(again)] if again else []
        chance.shuffle(again)
        return tuple(again)

    def uses(found):
        return tuple((new[alias], table) for alias, table in found)

    withouts = [(uses(inner), conditions(found)) for inner, found in select.without]
    chance.shuffle(withouts)
    return Select(uses(select.uses), tuple(column(text) for text in select.keep), conditions(select.where),
                  tuple(withouts))


class TheSameMeaning(unittest.TestCase):
    def test_selects_put_otherwise(self):
        chance = random.Random(17)
        found = 0
        while found < 300:
            tables = make_tables(chance)
            question = make_question(chance, tables)
            if isinstance(question, Select):
                found += 1
                store = make_store(chance, tables, 3)
                other = put_otherwise(chance, question)
                self.assertEqual(turners(other, store).data(), turners(question, store).data(), question.text())

    def test_another_order_of_uses(self):
        store = store_with(T, S, t=[("ann", 5), ("bob", 3)], s=[("ann", "bob"), ("bob", "cat")])
        where = (("w.b", "=", "u.a"),)
        one = Select((("u", "t"), ("w", "s")), ("u.a", "w.c"), where)
        other = Select((("w", "s"), ("u", "t")), ("u.a", "w.c"), where)
        self.assertEqual(turners(one, store).data(), turners(other, store).data())

    def test_a_union_with_itself_and_in_both_orders(self):
        store = example_store()
        self.assertEqual(turners(Union(RICH, RICH), store).data(), turners(RICH, store).data())
        self.assertEqual(turners(Union(RICH, FREE), store).data(), turners(Union(FREE, RICH), store).data())

    def test_a_first_that_cuts_nothing(self):
        select = Select(ONE, ("u.a", "u.p"))
        first = First(select, "u.p", 100)
        self.assertEqual(turners(first, example_store()).data(), turners(select, example_store()).data())

    def test_a_condition_that_always_or_never_holds(self):
        store = example_store()
        one = Select(ONE, ("u.a",), (("u.p", ">=", 4), ("u.a", "=", "u.a"), ("u.p", "<=", "u.p")))
        self.assertEqual(turners(one, store).data(), turners(RICH, store).data())
        never = Select(ONE, ("u.a",), (("u.p", "!=", "u.p"),))
        self.assertEqual(turners(never, store).data(),
                         (("t", Form.constant(T, False).tree, ()), ("s", Form.constant(S, False).tree, ())))

    def test_bounds_of_one_meaning(self):
        store = example_store()
        one = Groups(ONE, ("u.a",), having=(("count", ">=", 2), ("count", ">=", 1)))
        other = Groups((("v", "t"),), ("v.a",), having=(("count", ">=", 2),))
        self.assertEqual(turners(one, store).data(), turners(other, store).data())


class Inserts(unittest.TestCase):
    def test_a_row_that_is_there_and_one_that_clashes(self):
        keyed = Table("t", ("a",), ("p",), ("a",))
        store = store_with(keyed, t=[("ann", 5)])
        inserts = turners(Select(ONE, ("u.p",)), store).inserts("t")
        self.assertEqual([inserts(("ann", 5)), inserts(("ann", 6)), inserts(("bob", 6)), inserts(("bob", 5))],
                         [False, False, True, False])

    def test_the_names_of_a_row_are_the_same(self):
        question = Select((("w", "s"),), ("w.b",), (("w.b", "=", "w.c"),))
        inserts = turners(question, store_with(S, s=[("ann", "ann")])).inserts("s")
        self.assertEqual(inserts.tree, (
            "names", (("ann", ("names", (), None, ("leaf", False))),), None,
            ("names", (), ("leaf", True), ("leaf", False))))

    def test_a_row_matches_with_itself(self):
        question = Select((("u", "s"), ("v", "s")), ("u.b",), (("u.b", "=", "v.c"),))
        inserts = turners(question, store_with(S, s=[("ann", "bob")])).inserts("s")
        for row, expected in [(("x", "x"), True), (("x", "y"), False), (("x", "ann"), True), (("bob", "y"), True),
                              (("ann", "y"), False), (("bob", "bob"), True)]:
            self.assertIs(inserts(row), expected, row)

    def test_numbers_far_away(self):
        store = store_with(T, t=[("ann", 10 ** 12), ("bob", -10 ** 12)])
        question = First(Select(ONE, ("u.p",)), "u.p", 1, True)
        self.assertEqual(turners(question, store).inserts("t").tree, (
            "names", (), None, ("numbers", (10 ** 12,), (("leaf", False), ("leaf", True)))))

    def test_a_count_that_stays_the_same(self):
        # A row that replaces another one takes its matches away and brings as many.
        question = Groups((("u", "t"), ("v", "t")), (), (("u.p", "<=", "v.p"),))
        store = store_with(T, t=[("ann", 1), ("bob", 3)])
        found = turners(question, store)
        never = ("numbers", (), (("leaf", False),))
        ties = ("numbers", (0, 1), (("leaf", False), ("leaf", True), ("leaf", False)))
        self.assertEqual(found.replaces("t", ("bob", 3)).tree, ("names", (("ann", never),), None, ties))
        self.assertFalse(found.replaces("t", ("bob", 3))(("cat", 7)))
        self.assertTrue(found.replaces("t", ("bob", 3))(("cat", 1)))
        self.assertTrue(found.inserts("t")(("cat", 7)))

    def test_a_table_that_the_question_does_not_mention(self):
        found = turners(RICH, example_store())
        self.assertEqual(found.inserts("s"), Form.constant(S, False))
        self.assertEqual(found.replaces("s", ("ann", "cat")), Form.constant(S, False))
        self.assertEqual((found.deletes("s"), found.relevant("s")), ((), ()))

    def test_an_empty_store(self):
        found = turners(RICH, Store(T, S))
        self.assertEqual(found.inserts("t"), Form.compare(T, "p", ">=", 4))
        self.assertEqual((found.deletes("t"), found.relevant("t")), ((), ()))


class Data(unittest.TestCase):
    def test_the_rows_with_a_key_that_bars_others(self):
        keyed = Table("t", ("a",), ("p",), ("a",))
        store = store_with(keyed, t=[("ann", 1), ("bob", 9)])
        found = turners(RICH, store)
        self.assertEqual(found.relevant("t"), (("ann", 1), ("bob", 9)))
        self.assertEqual(found.deletes("t"), (("bob", 9),))
        name, tree, rows = found.data()[0]
        self.assertEqual((name, [row[:2] for row in rows]), ("t", [(("ann", 1), False), (("bob", 9), True)]))
        self.assertEqual(tree, found.inserts("t").tree)
        self.assertEqual([row[2] for row in rows], [found.replaces("t", row[0]).tree for row in rows])

    def test_a_row_that_is_not_relevant_is_replaced_as_others_are_inserted(self):
        store = store_with(T, t=[("ann", 5), ("bob", 3)])
        found = turners(RICH, store)
        told = Turners.read(found.data(), T)
        self.assertEqual(found.relevant("t"), (("ann", 5),))
        self.assertEqual(told.replaces("t", ("bob", 3)), found.inserts("t"))
        self.assertEqual(told.replaces("t", ("zoe", 77)), found.inserts("t"))
        self.assertNotEqual(told.replaces(row=("ann", 5), table="t"), found.inserts("t"))
        self.assertEqual((told.deletes("t"), told.relevant("t")), ((("ann", 5),), (("ann", 5),)))
        self.assertIs(told.turns(("replace", "t", ("bob", 3), ("cat", 9))), True)
        self.assertRaises(UnknownTable, told.inserts, "s")
        self.assertRaises(InvalidChange, told.turns, ("insert", "s", ("a", "b")))


class Errors(unittest.TestCase):
    def test_questions_that_do_not_fit(self):
        for thing in [*any_values(), Select(ONE, ("u.z",)), Groups((("u", "x"),))]:
            if not (isinstance(thing, Question) and thing.fits(T, S)):
                self.assertRaises(InvalidQuestion, turners, thing, example_store())

    def test_tables_that_are_not_there(self):
        found = turners(RICH, example_store())
        for thing in ["x", "T", *[value for value in any_values() if value != "t"]]:
            for method in (found.inserts, found.deletes, found.relevant):
                with self.assertRaises(UnknownTable) as caught:
                    method(thing)
                self.assertIs(caught.exception.name, thing)
            self.assertRaises(UnknownTable, found.replaces, thing, "no row")

    def test_rows_that_are_not_there(self):
        found = turners(RICH, store_with(T, t=[("ann", 1)]))
        for thing in [("ann", 2), ("ann", True), ["ann", 1], ("ann",), *any_values()]:
            with self.assertRaises(UnknownRow) as caught:
                found.replaces("t", thing)
            self.assertIs(caught.exception.row, thing)
        self.assertIsInstance(found.replaces(table="t", row=("ann", 1)), Form)

    def test_changes_that_are_none(self):
        found = turners(RICH, example_store())
        for thing in [("insert", "t", ("ann", True)), ("insert", "x", ("ann", 1)), ("delete", "t"), *any_values()]:
            with self.assertRaises(InvalidChange) as caught:
                found.turns(thing)
            self.assertIs(caught.exception.change, thing)

    def test_changes_that_are_not_possible_turn_nothing(self):
        found = turners(RICH, example_store())
        for change in [("insert", "t", ("ann", 5)), ("delete", "t", ("zoe", 9)), ("insert", "s", ("ann", "x")),
                       ("replace", "t", ("zoe", 9), ("cat", 9)), ("replace", "t", ("ann", 5), ("bob", 3))]:
            self.assertIs(found.turns(change), False)

    def test_names_of_parameters(self):
        found = turners(store=example_store(), question=RICH)
        self.assertTrue(found.turns(change=("delete", "t", ("ann", 5))))
        self.assertTrue(found.inserts(table="t")(row=("cat", 4)))
        self.assertEqual(found.deletes(table="t"), found.relevant(table="t"))
        self.assertEqual(Turners.read(found.data(), T, S).data(), found.data())


class AsItIsNow(unittest.TestCase):
    def test_turners_do_not_change_with_the_store(self):
        store = example_store()
        found, other = turners(FREE, store), turners(FREE, store)
        data = other.data()
        text = store.text()
        self.assertEqual(store.text(), text)
        store.do(("delete", "s", ("ann", "cat")), ("insert", "t", ("dog", 1)))
        self.assertEqual(found.data(), data)
        self.assertNotEqual(turners(FREE, store).data(), data)

    def test_turners_change_nothing(self):
        store = example_store()
        text = store.text()
        turners(FREE, store).data()
        self.assertEqual((store.text(), turned(FREE, store, ("delete", "t", ("bob", 3)))), (text, (True, True)))
