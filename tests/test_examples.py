"""The examples of the document's interface that speak of what is built so far."""

import unittest

from tests.helpers import FREE, RICH, S, T, example_store
from whatturns.boards import Board
from whatturns.effects import effect, reasons
from whatturns.errors import InvalidStore
from whatturns.forms import Form
from whatturns.questions import First, Groups, Select
from whatturns.readers import read_question
from whatturns.stores import Store
from whatturns.turning import turners
from whatturns.watching import Watch


class Examples(unittest.TestCase):
    def test_tables(self):
        found = [T.columns, T.is_row(("ann", 5)), T.is_row(("ann", True)), S.clash(("ann", "cat"), ("ann", "dog"))]
        self.assertEqual(found, [("a", "p"), True, False, True])

    def test_stores(self):
        store = Store(T, S)
        done = store.do(("insert", "t", ("ann", 5)), ("insert", "t", ("bob", 3)), ("insert", "s", ("ann", "cat")))
        found = [done, len(store), ("t", ("bob", 3)) in store, store.do(("insert", "s", ("ann", "dog")))]
        self.assertEqual(found, [(True, True, True), 3, True, (False,)])
        self.assertEqual(store.text().split("\n")[:3], ["table t names a numbers p key -", "row ann 5", "row bob 3"])
        self.assertEqual(store.shown("t"), "a    p\nann  5\nbob  3")
        self.assertRaises(InvalidStore, Store, T, T)

    def test_selects(self):
        store = example_store()
        found = [RICH.answer_in(store), FREE.answer_in(store), FREE.matches_in(store)]
        self.assertEqual(found, [(("ann",),), (("bob",),), ((("bob", 3),),)])

    def test_firsts_and_groups(self):
        store = example_store()
        top = First(Select((("u", "t"),), ("u.a", "u.p")), "u.p", 1, falling=True)
        found = [top.answer_in(store), Groups((("u", "t"),), greatest="u.p").answer_in(store)]
        self.assertEqual(found, [(("ann", 5),), ((2, 5),)])

    def test_text(self):
        found = [FREE.text(), read_question(FREE.text()) == FREE]
        self.assertEqual(found, ["from t as u without s as w where w.b = u.a keep u.a", True])

    def test_forms(self):
        rich = Form.compare(T, "p", ">=", 4) - Form.compare(T, "a", "=", "ann")
        self.assertEqual([rich(("bob", 4)), rich(("ann", 4)), rich.leaves()], [True, False, (False, True)])
        self.assertEqual(rich.tree, (
            "names", (("ann", ("numbers", (), (("leaf", False),))),), None,
            ("numbers", (3,), (("leaf", False), ("leaf", True)))))
        self.assertEqual(list(rich.pieces()), [
            ((("a", "=", "ann"),), False), ((("a", "!=", "ann"), ("p", "<=", 3)), False),
            ((("a", "!=", "ann"), ("p", ">=", 4)), True)])
        self.assertEqual(Form.compare(S, "b", "=", ".c").tree,
                         ("names", (), None, ("names", (), ("leaf", True), ("leaf", False))))

    def test_turners(self):
        found = turners(RICH, example_store())
        told = [found.inserts("t")(("cat", 4)), found.deletes("t"), found.relevant("t"), found.relevant("s")]
        self.assertEqual(told, [True, (("ann", 5),), (("ann", 5),), ()])

    def test_effects(self):
        store = example_store()
        found = [effect(FREE, store, ("replace", "s", ("ann", "cat"), ("bob", "cat"))),
                 reasons(FREE, store, ("insert", "s", ("bob", "dog")))]
        self.assertEqual(found, [((("ann",),), (("bob",),)),
                                 ((), ((("bob",), (("bob", 3),), ("without", 0, (("bob", "dog"),))),))])

    def test_watches(self):
        watch = Watch(FREE, example_store())
        found = [watch.do(("delete", "s", ("ann", "cat"))), watch.answer, watch.ways(("ann",))]
        self.assertEqual(found, [((((("ann", 5),),), ()),), (("ann",), ("bob",)), 1])

    def test_boards(self):
        board = Board(example_store())
        found = [board.stand(RICH), board.stand(FREE), board.turned_by(("insert", "t", ("cat", 9))),
                 board.do(("delete", "t", ("bob", 3)))]
        self.assertEqual(found, [0, 1, (0, 1), (1,)])
