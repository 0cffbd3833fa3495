"""The examples of the document's interface that speak of what is built so far."""

import unittest

from tests.helpers import FREE, RICH, S, T, example_store
from whatturns.errors import InvalidStore
from whatturns.questions import First, Groups, Select
from whatturns.stores import Store


class Examples(unittest.TestCase):
    def test_tables(self):
        found = [T.columns, T.is_row(("ann", 5)), T.is_row(("ann", True)), S.clash(("ann", "cat"), ("ann", "dog"))]
        self.assertEqual(found, [("a", "p"), True, False, True])

    def test_stores(self):
        store = Store(T, S)
        done = store.do(("insert", "t", ("ann", 5)), ("insert", "t", ("bob", 3)), ("insert", "s", ("ann", "cat")))
        found = [done, len(store), ("t", ("bob", 3)) in store, store.do(("insert", "s", ("ann", "dog")))]
        self.assertEqual(found, [(True, True, True), 3, True, (False,)])
        self.assertEqual(store.text().split("\n")[:3], ["table t names a numbers p key -", "row ann 5", "row bob 3"])
        self.assertEqual(store.shown("t"), "a    p\nann  5\nbob  3")
        self.assertRaises(InvalidStore, Store, T, T)

    def test_selects(self):
        store = example_store()
        found = [RICH.answer_in(store), FREE.answer_in(store), FREE.matches_in(store)]
        self.assertEqual(found, [(("ann",),), (("bob",),), ((("bob", 3),),)])

    def test_firsts_and_groups(self):
        store = example_store()
        top = First(Select((("u", "t"),), ("u.a", "u.p")), "u.p", 1, falling=True)
        found = [top.answer_in(store), Groups((("u", "t"),), greatest="u.p").answer_in(store)]
        self.assertEqual(found, [(("ann", 5),), ((2, 5),)])

    def test_text(self):
        self.assertEqual(FREE.text(), "from t as u without s as w where w.b = u.a keep u.a")
