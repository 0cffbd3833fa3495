"""Stores and changes (points 5 and 6)."""

import itertools
import unittest

from tests.helpers import S, T, any_values, example_store, store_with
from whatturns.errors import InvalidChange, InvalidStore, InvalidText, TurnError, Unknown, UnknownTable
from whatturns.stores import Store
from whatturns.tables import Table

K = Table("k", ("a",), ("p", "q"), ("a", "p"))


class Made(unittest.TestCase):
    def test_one_to_three_tables(self):
        self.assertEqual(Store.MOST, 3)
        for tables in [(T,), (S, T), (K, T, S)]:
            store = Store(*tables)
            self.assertEqual(store.tables, tables)
            self.assertEqual((len(store), list(store.walk())), (0, []))
            self.assertEqual([store.rows_of(table.name) for table in tables], [()] * len(tables))

    def test_other_arguments(self):
        wrong = [(), (T, T), (T, Table("t", ("b",))), (T, S, K, Table("x", ("a",))), ((T, S),), ([T],), (T, None)]
        for given in wrong + [(thing,) for thing in any_values() if not isinstance(thing, Table)]:
            with self.assertRaises(InvalidStore) as context:
                Store(*given)
            self.assertIsInstance(context.exception, TurnError)

    def test_tables_by_their_names(self):
        store = Store(T, S)
        self.assertEqual([store.table_of("t"), store.table_of(name="s")], [T, S])
        for thing in [value for value in any_values() if value != "t"]:
            for method in (store.table_of, store.rows_of, store.shown):
                with self.assertRaises(UnknownTable) as context:
                    method(thing)
                self.assertIs(context.exception.name, thing)
                self.assertIsInstance(context.exception, Unknown)


class Changes(unittest.TestCase):
    def test_changes(self):
        store = Store(T, S)
        for change in [("insert", "t", ("ann", 5)), ("delete", "s", ("a", "b")), ("replace", "t", ("a", 1), ("a", 1))]:
            self.assertIs(store.is_change(change), True)
        self.assertIs(store.is_change(thing=("insert", "t", ("ann", 5))), True)

    def test_others(self):
        store = Store(T, S)
        row = ("ann", 5)
        wrong = [("insert", "t"), ("insert", "t", row, row), ("delete", "t", row, row), ("replace", "t", row),
                 ("replace", "t", row, row, row), ("update", "t", row), ("insert", "x", row), ("insert", "s", row),
                 ("insert", "t", ("ann", True)), ("insert", "t", ["ann", 5]), ["insert", "t", row],
                 ("replace", "t", row, ("ann",)), ("replace", "t", ("ann",), row),
                 ("replace", "t", ("a", 1), ("a", "b")),
                 (["insert"], "t", row), ("insert", ["t"], row), ("insert", T, row), (None, None, None)]
        for thing in wrong + any_values():
            self.assertIs(store.is_change(thing), False)
            for method in (store.is_possible, store.do):
                with self.assertRaises(InvalidChange) as context:
                    method(thing)
                self.assertIs(context.exception.change, thing)

    def test_inserts(self):
        store = store_with(T, S, t=[("ann", 5)], s=[("ann", "cat")])
        found = [store.is_possible(("insert", "t", row)) for row in [("ann", 5), ("ann", 6), ("bob", 5)]]
        self.assertEqual(found, [False, True, True])
        found = [store.is_possible(("insert", "s", row)) for row in [("ann", "cat"), ("ann", "dog"), ("bob", "cat")]]
        self.assertEqual(found, [False, False, True])

    def test_deletes(self):
        store = store_with(T, S, t=[("ann", 5)], s=[("ann", "cat")])
        self.assertIs(store.is_possible(("delete", "t", ("ann", 5))), True)
        self.assertIs(store.is_possible(("delete", "t", ("ann", 6))), False)
        self.assertIs(store.is_possible(("delete", "s", ("ann", "dog"))), False)

    def test_replaces(self):
        store = store_with(S, s=[("ann", "cat"), ("bob", "cat")])
        for old, new, expected in [(("ann", "cat"), ("ann", "dog"), True), (("ann", "cat"), ("cat", "dog"), True),
                                   (("ann", "cat"), ("bob", "dog"), False), (("ann", "cat"), ("ann", "cat"), False),
                                   (("ann", "cat"), ("bob", "cat"), False), (("ann", "dog"), ("cat", "dog"), False)]:
            self.assertIs(store.is_possible(("replace", "s", old, new)), expected, (old, new))

    def test_every_change_of_small_stores(self):
        rows = [(name, first, second) for name in "ab" for first in (1, 2) for second in (1, 2)]
        for there in itertools.combinations(rows, 2):
            if K.clash(*there):
                continue
            for old, new in itertools.product(rows, repeat=2):
                left = [row for row in there if row != old]
                free = new not in there and not any(new[:2] == row[:2] for row in there)
                takes = old in there and new not in there and not any(new[:2] == row[:2] for row in left)
                for change, possible, after in [
                        (("insert", "k", new), free, [*there, new]), (("delete", "k", old), old in there, left),
                        (("replace", "k", old, new), takes, [*left, new])]:
                    store = store_with(K, k=there)
                    self.assertIs(store.is_possible(change=change), possible)
                    self.assertEqual(store.do(change), (possible,))
                    self.assertEqual(store.rows_of("k"), tuple(sorted(after if possible else there)))

    def test_one_after_the_other(self):
        store = Store(T)
        done = store.do(("insert", "t", ("b", 1)), ("insert", "t", ("b", 1)), ("delete", "t", ("a", 1)),
                        ("replace", "t", ("b", 1), ("a", -1)), ("insert", "t", ("a", -3)), ("delete", "t", ("b", 1)))
        self.assertEqual(done, (True, False, False, True, True, False))
        self.assertEqual(store.rows_of("t"), (("a", -3), ("a", -1)))
        self.assertEqual(store.do(), ())

    def test_a_wrong_change_among_others(self):
        store = example_store()
        with self.assertRaises(InvalidChange) as context:
            store.do(("insert", "t", ("cat", 1)), ("insert", "t", ("cat", True)), None)
        self.assertEqual(repr(context.exception.change), repr(("insert", "t", ("cat", True))))
        self.assertEqual(store, example_store())

    def test_many_rows(self):
        store = Store(T)
        self.assertEqual(store.do(*[("insert", "t", ("a", at)) for at in range(30)]), (True,) * 30)
        self.assertEqual(len(store), 30)


class Contents(unittest.TestCase):
    def test_length_and_walk(self):
        store = example_store()
        self.assertEqual(len(store), 3)
        self.assertEqual(list(store.walk()), [("t", ("ann", 5)), ("t", ("bob", 3)), ("s", ("ann", "cat"))])

    def test_contains(self):
        store = example_store()
        self.assertIs(("t", ("bob", 3)) in store, True)
        store.do(("insert", "t", ("bob", 1)))
        self.assertIs(("t", ("bob", 1)) in store, True)
        for thing in [("t", ("bob", 4)), ("s", ("bob", 3)), ("x", ("bob", 3)), ("t", ("bob", True)), ("t", ["bob", 3]),
                      ["t", ("bob", 3)], ("t", ("bob", 3), 1), ("t",), (("bob", 3), "t"), *any_values()]:
            self.assertIs(thing in store, False)

    def test_what_was_returned_stays(self):
        store = example_store()
        rows, tables = store.rows_of("t"), store.tables
        store.do(("delete", "t", ("ann", 5)))
        self.assertEqual((rows, tables), ((("ann", 5), ("bob", 3)), (T, S)))

    def test_copies_share_nothing(self):
        store = example_store()
        twin = store.copy()
        self.assertEqual((twin, twin.tables), (store, (T, S)))
        twin.do(("delete", "t", ("ann", 5)))
        self.assertEqual((len(store), len(twin)), (3, 2))
        store.do(("insert", "t", ("cat", 1)), ("insert", "t", ("dog", 1)))
        self.assertEqual((len(store), len(twin)), (5, 2))

    def test_equality(self):
        self.assertTrue(example_store() == example_store())
        self.assertFalse(Store(T, S) == Store(S, T))
        self.assertFalse(Store(T) == Store(Table("t", ("a",), ("q",))))
        self.assertFalse(store_with(T, t=[("a", 1)]) == store_with(T, t=[("a", 2)]))
        self.assertTrue(store_with(T, t=[("a", 1), ("b", 1)]) == store_with(T, t=[("b", 1), ("a", 1)]))
        for thing in [None, True, (), {"t": ()}, T, Store(T, S)]:
            self.assertFalse(example_store() == thing)
            self.assertTrue(example_store() != thing)


class Texts(unittest.TestCase):
    TEXT = "table t names a numbers p key -\nrow ann 5\nrow bob 3\ntable s names b,c numbers - key b\nrow ann cat"

    def test_text(self):
        self.assertEqual(example_store().text(), self.TEXT)
        self.assertEqual(Store(K).text(), "table k names a numbers p,q key a,p")
        store = store_with(Table("n", (), ("p",)), n=[(10,), (0,), (-7,)])
        self.assertEqual(store.text(), "table n names - numbers p key -\nrow -7\nrow 0\nrow 10")

    def test_read(self):
        self.assertEqual(Store.read(self.TEXT), example_store())
        self.assertEqual(Store(T).read(text=self.TEXT), example_store())
        for store in [Store(K), Store(T, K, S), store_with(K, T, k=[("a", 1, 2), ("b", 1, -2)], t=[("b", 0)])]:
            self.assertEqual(Store.read(store.text()), store)

    def test_rows_in_any_order(self):
        text = "table t names a numbers p key -\nrow bob 3\nrow ann 5\nrow ann -5"
        self.assertEqual(Store.read(text).rows_of("t"), (("ann", -5), ("ann", 5), ("bob", 3)))

    def test_words_of_the_language_as_names(self):
        table = Table("row", ("table", "row"), ("key",), ("table",))
        store = store_with(table, row=[("row", "table", 1), ("names", "key", 0)])
        self.assertEqual(Store.read(store.text()), store)

    def test_numbers_with_many_digits(self):
        text = "table t names - numbers p key -\nrow " + "9" * 3000
        self.assertEqual(len(Store.read(text)), 1)
        self.assertEqual(Store.read(text).text(), text)

    def test_other_texts(self):
        head = "table t names a numbers p key a"
        wrong = ["", "\n", "row ann 5", head + "\n", "\n" + head, head + " ", " " + head, head + "\n\n" + "row a 1",
                 head.replace(" ", "  "), head[:-1] + "q", head[:-1] + "a,", head[:-1] + "a,p,", head[:-2], head + " b",
                 "table t names a numbers p", "table t numbers p names a key a", "table names a numbers p key a",
                 "table T names a numbers p key -", "table t names - numbers - key -",
                 "table t names a,a numbers - key -",
                 "table t names a,b,c numbers - key -", "table t names a, b numbers - key -",
                 "table t names  numbers - key -",
                 "table t names a numbers p key p,a", "tables t names a numbers p key a", head + "\n" + head,
                 "\n".join([head.replace(" t ", f" {name} ") for name in "tuvw"])]
        rows = ["row a", "row a 1 2", "row a 01", "row a -0", "row a +1", "row a b", "row A 1", "row a  1", "row a 1 ",
                "row", "row ", " row a 1", "rows a 1", "row a 1\nrow a 1", "row a 1\nrow a 2", "row 1 a",
                "row abcdefghi 1"]
        for text in wrong + [f"{head}\n{row}" for row in rows] + any_values():
            with self.assertRaises(InvalidText) as context:
                Store.read(text)
            self.assertIsInstance(context.exception, TurnError)

    def test_shown(self):
        self.assertEqual(example_store().shown("t"), "a    p\nann  5\nbob  3")
        self.assertEqual(example_store().shown(name="s"), "b    c\nann  cat")
        self.assertEqual(Store(T).shown("t"), "a  p")

    def test_shown_columns(self):
        table = Table("k", ("longname", "b"), ("p", "number"))
        store = store_with(table, k=[("ann", "abc", -100, 5), ("bob", "a", 1, 12345678)])
        lines = ["longname  b       p    number", "ann       abc  -100         5", "bob       a       1  12345678"]
        self.assertEqual(store.shown("k"), "\n".join(lines))

    def test_shown_without_blanks_at_the_ends(self):
        self.assertEqual(store_with(S, s=[("a", "abc"), ("b", "x")]).shown("s"), "b  c\na  abc\nb  x")
        self.assertEqual(store_with(Table("n", (), ("p",)), n=[(10,), (5,)]).shown("n"), " p\n 5\n10")
