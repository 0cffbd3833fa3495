"""One select within another one (point 25): a store or a certificate is found, and nothing else is accepted."""

import random
import unittest

from tests.certs import is_certificate_within, places_in, put_at, spoilt
from tests.helpers import FREE, RICH, S, T, any_values, nested, store_with
from tests.making import make_tables
from tests.naive import naive_answer
from tests.shaping import make_keyed_select, make_plain_select, small_store
from tests.test_cases import clash, words_in
from whatturns.errors import InvalidQuestion
from whatturns.questions import First, Groups, Select, Union
from whatturns.stores import Store
from whatturns.tables import Table
from whatturns.within import outside_holds, within_case, within_holds

ONE = (("u", "t"),)
ALL = Select(ONE, ("u.a",))
MORE = Select(ONE, ("u.a",), (("u.p", ">=", 5),))


def loosened(chance, select):
    """A select that asks for less, with other aliases, in which a use may be left out."""
    where = [condition for condition in select.where if chance.random() < 0.7]
    new = dict(zip([alias for alias, _ in select.uses], chance.sample(["u", "v", "w", "x"], 2)))

    def column(text):
        return f"{new[text.split('.')[0]]}.{text.split('.')[1]}"

    conditions = [(column(one), operator, column(other) if isinstance(other, str) and "." in other else other)
                  for one, operator, other in where]
    uses = tuple((new[alias], table) for alias, table in select.uses)
    if chance.random() < 0.5:
        uses = uses[::-1]
    return Select(uses, tuple(column(text) for text in select.keep), tuple(conditions))


class Drawn(unittest.TestCase):
    def check(self, first, second, tables, seen):
        found = within_case(first, second, *tables)
        self.assertEqual(len(found), 2)
        if found[0] == "case":
            self.assertEqual(found[1].tables, tuple(tables))
            self.assertLessEqual(len(found[1]), 2)
            self.assertTrue(set(naive_answer(first, found[1])) - set(naive_answer(second, found[1])))
            self.assertIs(outside_holds(first, second, found[1], *tables), True)
            seen.append("case")
            return None
        self.assertEqual(found[0], "certificate")
        self.assertTrue(is_certificate_within(found[1], first, second, tables), (first.text(), second.text()))
        self.assertIs(within_holds(first, second, found[1], *tables), True)
        seen.append("certificate")
        seen.extend(words_in(found[1]))
        return found[1]

    def draw(self, chance):
        if chance.random() < 0.3:
            table, first = make_keyed_select(chance)
            tables = [table]
        else:
            tables = make_tables(chance)
            first = make_plain_select(chance, tables)
        if chance.random() < 0.5:
            return tables, first, loosened(chance, first)
        return tables, first, make_plain_select(chance, tables, first.numeric_columns(tables))

    def test_a_store_or_a_certificate(self):
        chance = random.Random(121)
        seen, full = [], 0
        for _ in range(3000):
            tables, first, second = self.draw(chance)
            if self.check(first, second, tables, seen) is not None:
                for _ in range(8):
                    store = small_store(chance, tables, 3)
                    answer = naive_answer(first, store)
                    full += len(answer) > 0
                    self.assertLessEqual(set(answer), set(naive_answer(second, store)), (first.text(), second.text()))
        for word, least in (("case", 500), ("certificate", 500), ("way", 500), ("key", 40), ("split", 3)):
            self.assertGreater(seen.count(word), least, word)
        self.assertEqual(seen.count("apart"), 0)
        self.assertGreater(full, 2000)

    def test_certificates_spoilt_at_any_place(self):
        chance = random.Random(122)
        values = [*any_values(), "u", "v", "w", "u.a", ".new", ".old", "ann", 0, "=", "!=", "<", "<=", "way", "apart"]
        right, wrong, count = 0, 0, 0
        while count < 500:
            tables, first, second = self.draw(chance)
            found = within_case(first, second, *tables)
            if found[0] == "certificate":
                count += 1
                for _ in range(12):
                    thing = spoilt(chance, found[1], values)
                    expected = is_certificate_within(thing, first, second, tables)
                    self.assertIs(within_holds(first, second, thing, *tables), expected, thing)
                    right, wrong = right + expected, wrong + (not expected)
        self.assertGreater(right, 500)
        self.assertGreater(wrong, 3000)

    def test_a_select_is_within_itself(self):
        chance = random.Random(123)
        for _ in range(400):
            tables = make_tables(chance)
            select = make_plain_select(chance, tables)
            self.assertEqual(within_case(select, select, *tables)[0], "certificate", select.text())


class ByHand(unittest.TestCase):
    def holds(self, first, second, thing, *tables):
        found = within_holds(first, second, thing, *tables)
        self.assertIs(is_certificate_within(thing, first, second, tables), found, thing)
        return found

    def check(self, first, second, thing, *tables):
        """It holds, and spoilt at any place it holds only if it is still one."""
        self.assertTrue(self.holds(first, second, thing, *tables), thing)
        chance = random.Random(repr(thing))
        for path in places_in(thing):
            for value in chance.sample(any_values(), 12):
                self.holds(first, second, put_at(thing, path, value), *tables)
        for _ in range(300):
            self.holds(first, second, spoilt(chance, thing, [*any_values(), "u", "v"]), *tables)

    def test_ways(self):
        tree = ("way", ("u",), (clash((5, "<=", "u.p"), ("u.p", "<", 4)), clash(("u.a", "!=", "u.a"))))
        self.check(MORE, RICH, tree, T, S)
        self.assertFalse(self.holds(RICH, MORE, tree, T, S))
        self.assertFalse(self.holds(MORE, RICH, (("comes", (0,), tree),), T, S))
        for names in [("v",), (".new",), (".old",), ("t",), ("u", "u"), (), ["u"], "u", ("u.a",)]:
            self.assertFalse(self.holds(MORE, RICH, ("way", names, tree[2]), T, S))

    def test_rows_are_called_by_aliases_of_the_first_select(self):
        second = Select((("x", "t"), ("y", "t")), ("y.a",), (("x.p", ">=", 4),))
        first = Select((("u", "t"), ("v", "t")), ("v.a",), (("u.p", ">=", 4),))
        tree = ("way", ("u", "v"), (clash((4, "<=", "u.p"), ("u.p", "<", 4)), clash(("v.a", "!=", "v.a"))))
        self.check(first, second, tree, T)
        for names in [("x", "y"), ("v", "u"), ("u", "u"), ("v", "v"), ("u", "y")]:
            self.assertFalse(self.holds(first, second, ("way", names, tree[2]), T))

    def test_keys(self):
        uses = (("u", "s"), ("v", "s"))
        first = Select(uses, ("u.c",), (("u.b", "=", "v.b"),))
        second = Select((("x", "s"), ("y", "s")), ("y.c",), (("x.c", "=", "y.c"), ("x.c", "=", "x.c")))
        tree = ("way", ("u", "u"), (clash(("u.c", "!=", "u.c")), clash(("u.c", "!=", "u.c")),
                                    clash(("u.c", "!=", "u.c"))))
        self.check(first, second, tree, S)
        apart = Select(uses, ("u.b",), (("u.b", "=", "v.b"), ("u.c", "!=", "v.c")))
        tree = ("key", "u", "v", clash(("u.c", "=", "v.c"), ("u.c", "!=", "v.c")), (
            clash(("u.b", "=", "v.b"), ("u.b", "!=", "v.b")),))
        nothing = Select((("u", "s"),), ("u.b",), (("u.b", "!=", "u.b"),))
        self.check(apart, nothing, tree, S)
        turned_round = ("key", "v", "u", clash(("v.c", "=", "u.c"), ("u.c", "!=", "v.c")), (
            clash(("u.b", "=", "v.b"), ("v.b", "!=", "u.b")),))
        self.check(apart, nothing, turned_round, S)
        for first_row, other in [("u", "u"), ("v", "u"), ("u", "w"), (".new", "v"), ("u", None)]:
            self.assertFalse(self.holds(apart, nothing, ("key", first_row, other, *tree[3:]), S))
        self.assertFalse(self.holds(apart, nothing, tree, Table("s", ("b", "c"))))
        self.assertEqual(within_case(apart, nothing, Table("s", ("b", "c")))[0], "case")

    def test_there_is_no_apart(self):
        uses = (("u", "t"), ("v", "t"))
        first = Select(uses, ("u.a",), (("u.a", "=", "v.a"), ("u.p", "=", "v.p")))
        trees = (clash(("u.a", "=", "v.a"), ("u.a", "!=", "v.a")), clash(("u.p", "=", "v.p"), ("u.p", "!=", "v.p")))
        for one, other in [("u", "v"), (".new", "v"), (".old", "u"), ("v", "u")]:
            self.assertFalse(self.holds(first, ALL, ("apart", one, other, trees), T))

    def test_splits(self):
        first = Select(ONE, ("u.a",), (("u.p", ">=", 3), ("u.p", "<=", 4), ("u.p", "!=", 3), ("u.p", "!=", 4)))
        tree = ("split", ("u.p", "!=", 3), clash((3, "<=", "u.p"), ("u.p", "<", 3)), (
            "split", ("u.p", "!=", 4), clash((3, "<", "u.p"), ("u.p", "<", 4)),
            clash((4, "<", "u.p"), ("u.p", "<=", 4))))
        self.check(first, Select(ONE, ("u.a",), (("u.p", "=", 99),)), tree, T)
        self.assertFalse(self.holds(first, RICH, ("split", ("u.p", "!=", 5), *tree[2:]), T))
        self.assertFalse(self.holds(first, RICH, ("split", ("u.a", "!=", "u.a"), *tree[2:]), T))

    def test_kept_columns_of_other_kinds(self):
        pair = Table("m", ("x", "y"), ("p", "q"))
        one = Select((("u", "m"),), ("u.x", "u.p", "u.p"), (("u.x", "=", "u.y"), ("u.p", "!=", 0)))
        other = Select((("w", "m"),), ("w.y", "w.p", "w.p"), (("w.p", "!=", 0),))
        self.assertEqual([within_case(one, other, pair)[0], within_case(other, one, pair)[0]], ["certificate", "case"])
        constant = Select((("u", "m"),), ("u.p", "u.q"), (("u.p", "=", 3), ("u.q", "=", 3)))
        doubled = Select((("w", "m"),), ("w.q", "w.q"), (("w.q", ">=", 3),))
        self.assertEqual([within_case(constant, doubled, pair)[0], within_case(doubled, constant, pair)[0]],
                         ["certificate", "case"])

    def test_other_tables(self):
        second = Select((("w", "s"),), ("w.b",))
        self.assertEqual(within_case(ALL, second, T, S)[0], "case")
        never = Select(ONE, ("u.a",), (("u.p", "<=", 3), ("u.p", ">=", 4)))
        self.assertEqual(within_case(never, second, T, S)[0], "certificate")

    def test_any_values(self):
        for thing in [*any_values(), *[nested(kind, 99) for kind in ("tuple", "list", "dict")]]:
            self.assertFalse(self.holds(MORE, RICH, thing, T, S))


class Outside(unittest.TestCase):
    def test_stores(self):
        store = store_with(T, S, t=[("ann", 4), ("bob", 9)], s=[("ann", "x")])
        self.assertIs(outside_holds(RICH, MORE, store, T, S), True)
        self.assertIs(outside_holds(MORE, RICH, store, T, S), False)
        self.assertIs(outside_holds(RICH, MORE, store_with(T, S, t=[("ann", 4), ("ann", 9)]), T, S), False)
        self.assertIs(outside_holds(RICH, MORE, Store(T, S), T, S), False)
        large = store_with(T, S, t=[("ann", number) for number in range(-5, 5)], s=[("ann", "x"), ("bob", "x")])
        self.assertIs(outside_holds(RICH, MORE, large, T, S), True)

    def test_other_tables(self):
        for tables in [(S, T), (T,), (T, S, Table("o", ("a",))), (T, Table("s", ("b", "c"))),
                       (Table("t", ("a",), ("p",), ("a",)), S)]:
            store = store_with(*tables, t=[("ann", 4)])
            self.assertIs(outside_holds(RICH, MORE, store, T, S), False)
            self.assertIs(outside_holds(RICH, MORE, store, *tables), True)

    def test_any_values(self):
        store = store_with(T, S, t=[("ann", 4)])
        for thing in [value for value in any_values() if not isinstance(value, Store)] + [(store,), [store],
                                                                                          (store, None)]:
            self.assertIs(outside_holds(RICH, MORE, thing, T, S), False)
        self.assertEqual(store, store_with(T, S, t=[("ann", 4)]))


class Errors(unittest.TestCase):
    FUNCTIONS = [lambda first, second, *tables: within_case(first, second, *tables),
                 lambda first, second, *tables: outside_holds(first, second, None, *tables),
                 lambda first, second, *tables: within_holds(first, second, None, *tables)]

    def test_questions(self):
        three = Select((("u", "t"), ("v", "t"), ("w", "t")), ("u.a",))
        wrong = [three, Select(ONE, ("u.a",), (("u.p", ">=", 4),) * 6), FREE, Union(RICH, RICH), Groups(ONE),
                 First(Select(ONE, ("u.p",)), "u.p", 1), Select(ONE, ("u.z",)), Select(ONE, ("u.a",) * 5)]
        for function in self.FUNCTIONS:
            for thing in [*wrong, *any_values()]:
                if thing != RICH:
                    self.assertRaises(InvalidQuestion, function, thing, RICH, T, S)
                    self.assertRaises(InvalidQuestion, function, RICH, thing, T, S)

    def test_other_kinds_of_kept_columns(self):
        for one, other in [(("u.a",), ("u.p",)), (("u.a", "u.p"), ("u.p", "u.a")), (("u.a",), ("u.a", "u.a"))]:
            for function in self.FUNCTIONS:
                self.assertRaises(InvalidQuestion, function, Select(ONE, one), Select(ONE, other), T, S)
        self.assertEqual(within_case(Select(ONE, ("u.a", "u.p")), Select(ONE, ("u.a", "u.p")), T)[0], "certificate")
