"""The examples of the document's interface."""

import unittest

from tests.helpers import FREE, RICH, S, T, example_store
from whatturns.boards import Board
from whatturns.cases import certificate_holds, turning_case
from whatturns.choices import least_choice
from whatturns.console import Console
from whatturns.effects import effect, reasons
from whatturns.errors import InvalidStore, NoOrder
from whatturns.forms import Form
from whatturns.guards import Guard
from whatturns.hubs import Hub, Replica
from whatturns.questions import First, Groups, Select
from whatturns.readers import read_question
from whatturns.rooms import Room
from whatturns.stores import Store
from whatturns.turning import turners
from whatturns.watching import Watch
from whatturns.within import within_case, within_holds


class Examples(unittest.TestCase):
    def test_tables(self):
        found = [T.columns, T.is_row(("ann", 5)), T.is_row(("ann", True)), S.clash(("ann", "cat"), ("ann", "dog"))]
        self.assertEqual(found, [("a", "p"), True, False, True])

    def test_stores(self):
        store = Store(T, S)
        done = store.do(("insert", "t", ("ann", 5)), ("insert", "t", ("bob", 3)), ("insert", "s", ("ann", "cat")))
        found = [done, len(store), ("t", ("bob", 3)) in store, store.do(("insert", "s", ("ann", "dog")))]
        self.assertEqual(found, [(True, True, True), 3, True, (False,)])
        self.assertEqual(store.text().split("\n")[:3], ["table t names a numbers p key -", "row ann 5", "row bob 3"])
        self.assertEqual(store.shown("t"), "a    p\nann  5\nbob  3")
        self.assertRaises(InvalidStore, Store, T, T)

    def test_selects(self):
        store = example_store()
        found = [RICH.answer_in(store), FREE.answer_in(store), FREE.matches_in(store)]
        self.assertEqual(found, [(("ann",),), (("bob",),), ((("bob", 3),),)])

    def test_firsts_and_groups(self):
        store = example_store()
        top = First(Select((("u", "t"),), ("u.a", "u.p")), "u.p", 1, falling=True)
        found = [top.answer_in(store), Groups((("u", "t"),), greatest="u.p").answer_in(store)]
        self.assertEqual(found, [(("ann", 5),), ((2, 5),)])

    def test_text(self):
        found = [FREE.text(), read_question(FREE.text()) == FREE]
        self.assertEqual(found, ["from t as u without s as w where w.b = u.a keep u.a", True])

    def test_forms(self):
        rich = Form.compare(T, "p", ">=", 4) - Form.compare(T, "a", "=", "ann")
        self.assertEqual([rich(("bob", 4)), rich(("ann", 4)), rich.leaves()], [True, False, (False, True)])
        self.assertEqual(rich.tree, (
            "names", (("ann", ("numbers", (), (("leaf", False),))),), None,
            ("numbers", (3,), (("leaf", False), ("leaf", True)))))
        self.assertEqual(list(rich.pieces()), [
            ((("a", "=", "ann"),), False), ((("a", "!=", "ann"), ("p", "<=", 3)), False),
            ((("a", "!=", "ann"), ("p", ">=", 4)), True)])
        self.assertEqual(Form.compare(S, "b", "=", ".c").tree,
                         ("names", (), None, ("names", (), ("leaf", True), ("leaf", False))))

    def test_turners(self):
        found = turners(RICH, example_store())
        told = [found.inserts("t")(("cat", 4)), found.deletes("t"), found.relevant("t"), found.relevant("s")]
        self.assertEqual(told, [True, (("ann", 5),), (("ann", 5),), ()])

    def test_effects(self):
        store = example_store()
        found = [effect(FREE, store, ("replace", "s", ("ann", "cat"), ("bob", "cat"))),
                 reasons(FREE, store, ("insert", "s", ("bob", "dog")))]
        self.assertEqual(found, [((("ann",),), (("bob",),)),
                                 ((), ((("bob",), (("bob", 3),), ("without", 0, (("bob", "dog"),))),))])

    def test_watches(self):
        watch = Watch(FREE, example_store())
        found = [watch.do(("delete", "s", ("ann", "cat"))), watch.answer, watch.ways(("ann",))]
        self.assertEqual(found, [((((("ann", 5),),), ()),), (("ann",), ("bob",)), 1])

    def test_boards(self):
        board = Board(example_store())
        found = [board.stand(RICH), board.stand(FREE), board.turned_by(("insert", "t", ("cat", 9))),
                 board.do(("delete", "t", ("bob", 3)))]
        self.assertEqual(found, [0, 1, (0, 1), (1,)])

    def test_guards(self):
        twice = Select((("u", "t"), ("w", "t")), ("u.a",), (("u.a", "=", "w.a"), ("u.p", "!=", "w.p")))
        guard = Guard(example_store(), twice)
        self.assertEqual(guard.barred_template("t", ("ann", "?n")).tree,
                         ("numbers", (4, 5), (("leaf", True), ("leaf", False), ("leaf", True))))

    def test_choices(self):
        found = least_choice(RICH, example_store(), (("delete", "t", ("bob", 3)), ("delete", "t", ("ann", 5))))
        self.assertEqual(found, ((1,), (((), (("ann", 5),)), ((0,), (("ann", 5),)))))

    def test_rooms(self):
        room = Room(example_store())
        first = room.enter(((RICH, (("ann",),)),), (("delete", "t", ("ann", 5)),))
        second = room.enter(((RICH, (("ann",),)),), ())
        self.assertEqual([first, second, room.order], [0, 1, (1, 0)])
        room = Room(example_store())
        room.enter(((RICH, (("ann",),)),), (("delete", "t", ("ann", 5)),))
        with self.assertRaises(NoOrder) as caught:
            room.enter(((RICH, (("bob",),)),), ())
        self.assertEqual(caught.exception.tree, ((0, ((1, 0),)), (1, 0)))

    def test_hubs(self):
        hub = Hub(example_store())
        hub.enroll("far", RICH)
        replica = Replica("far", RICH, T, S)
        found = [replica.take(hub.letters()[0]), replica.answer, hub.do(("insert", "t", ("cat", 7))),
                 replica.turns(("insert", "t", ("dog", 8)))]
        self.assertEqual(found, [True, (("ann",),), True, True])

    def test_cases(self):
        shape = ("insert", "t", ("?x", "?n"))
        tree = ("clash", ((4, "<=", "?n"), ("?n", "<=", 3)))
        found = [turning_case(shape, (), RICH, T, S)[0], turning_case(shape, (("?n", "<=", 3),), RICH, T, S)[0],
                 certificate_holds(shape, (("?n", "<=", 3),), RICH, (("comes", (0,), tree),), T, S)]
        self.assertEqual(found, ["case", "certificate", True])

    def test_within(self):
        more = Select((("u", "t"),), ("u.a",), (("u.p", ">=", 5),))
        tree = ("way", ("u",), (
            ("clash", ((5, "<=", "u.p"), ("u.p", "<", 4))), ("clash", (("u.a", "!=", "u.a"),))))
        found = [within_case(RICH, more, T, S)[0], within_case(more, RICH, T, S)[0],
                 within_holds(more, RICH, tree, T, S)]
        self.assertEqual(found, ["case", "certificate", True])

    def test_console(self):
        console = Console(example_store().text())
        found = [console.say("stand from t as u where u.p >= 4 keep u.a"), console.say("insert t cat 9"),
                 console.say("ask from t as u keep u.a, u.p"),
                 console.say("turns delete t cat 9 / from t as u keep u.a")]
        self.assertEqual(found, ["0", "done 0", "ann 5; bob 3; cat 9", "yes"])
