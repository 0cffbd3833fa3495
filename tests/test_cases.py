"""Cases and certificates of changes (point 24): one of both is found, and nothing else is accepted."""

import itertools
import random
import unittest

from tests.certs import is_certificate, places_in, put_at, spoilt
from tests.helpers import FREE, RICH, S, T, any_values, nested, store_with
from tests.making import make_tables
from tests.naive import naive_answer
from tests.shaping import (changes_of, make_bounds, make_keyed_select, make_pinned, make_plain_select, make_shape,
                           small_store)
from whatturns.cases import case_holds, certificate_holds, turning_case
from whatturns.errors import InvalidQuestion, InvalidShape
from whatturns.questions import First, Groups, Select, Union
from whatturns.stores import Store
from whatturns.tables import Table

ONE = (("u", "t"),)
PAIR = (("u", "t"), ("v", "t"))
NUMBERS = Table("n", (), ("p",))


def words_in(thing):
    """The words of the trees in a certificate."""
    if not isinstance(thing, tuple):
        return []
    own = [thing[0]] if thing and thing[0] in ("clash", "way", "key", "apart", "split") else []
    return own + [word for part in thing for word in words_in(part)]


def turned(select, store, change):
    """Whether the change is possible and turns the answer, by asking again."""
    after = store.copy()
    return after.do(change)[0] and naive_answer(select, after) != naive_answer(select, store)


class Drawn(unittest.TestCase):
    def check(self, chance, shape, bounds, select, tables, seen):
        found = turning_case(shape, bounds, select, *tables)
        if found[0] == "case":
            _, store, change = found
            self.assertEqual(store.tables, tuple(tables))
            self.assertLessEqual(len(store), 2)
            self.assertTrue(turned(select, store, change))
            self.assertIs(case_holds(shape, bounds, select, (store, change), *tables), True)
            seen.append("case")
            return None
        self.assertEqual((found[0], len(found)), ("certificate", 2))
        self.assertTrue(is_certificate(found[1], shape, bounds, select, tables), (shape, bounds, select.text()))
        self.assertIs(certificate_holds(shape, bounds, select, found[1], *tables), True)
        seen.extend(words_in(found[1]))
        seen.append("certificate")
        return found[1]

    def test_a_case_or_a_certificate(self):
        chance = random.Random(111)
        seen, tried = [], 0
        for _ in range(4000):
            tables = make_tables(chance)
            shape = make_shape(chance, tables)
            bounds, select = make_bounds(chance, shape), make_plain_select(chance, tables)
            certificate = self.check(chance, shape, bounds, select, tables, seen)
            if certificate is not None and chance.random() < 0.5:
                for change in changes_of(shape, bounds, chance, 12):
                    there = [(change[1], change[2])] if change[0] != "insert" else []
                    store = small_store(chance, tables, 2, there)
                    tried += 1
                    self.assertFalse(turned(select, store, change),
                                     (shape, bounds, select.text(), store.text(), change))
        self.assertGreater(tried, 4000)
        for word in ("case", "certificate", "clash", "way"):
            self.assertGreater(seen.count(word), 500, word)

    def test_tables_with_keys(self):
        chance = random.Random(115)
        seen = []
        for _ in range(1200):
            table, select = make_keyed_select(chance)
            shape = make_shape(chance, [table])
            bounds = make_bounds(chance, shape)
            certificate = self.check(chance, shape, bounds, select, [table], seen)
            if certificate is not None:
                for change in changes_of(shape, bounds, chance, 6):
                    there = [(change[1], change[2])] if change[0] != "insert" else []
                    store = small_store(chance, [table], 2, there)
                    self.assertFalse(turned(select, store, change),
                                     (shape, bounds, select.text(), store.text(), change))
        for word in ("case", "certificate", "key"):
            self.assertGreater(seen.count(word), 50, word)

    def test_rows_that_can_be_no_others(self):
        chance = random.Random(116)
        seen = []
        for _ in range(2500):
            table, shape, select = make_pinned(chance)
            certificate = self.check(chance, shape, (), select, [table], seen)
            if certificate is not None:
                for change in changes_of(shape, (), chance, 3):
                    there = [(change[1], change[2])] if change[0] != "insert" else []
                    store = small_store(chance, [table], 2, there)
                    self.assertFalse(turned(select, store, change), (shape, select.text(), store.text(), change))
        for word in ("case", "certificate", "apart"):
            self.assertGreater(seen.count(word), 15, word)

    def test_little_room_between_the_numbers(self):
        chance = random.Random(112)
        seen, tables = [], [NUMBERS, Table("o", (), ("q", "r"), ("q",))]
        stores = [store_with(*tables, n=[(one,)] * (one < 4), o=[two] * (two[0] < 4))
                  for one in range(5) for two in [*itertools.product(range(4), repeat=2), (4, 4)]]
        for _ in range(700):
            uses = tuple((alias, chance.choice("no")) for alias in "uv")
            columns = [f"{alias}.{column}" for alias, name in uses for column in ("p" if name == "n" else "qr")]
            where, tight, low = [], chance.choice(columns), chance.randint(0, 2)
            if chance.random() < 0.5:
                where = [(tight, ">=", low), (tight, "<=", low + 1), (tight, "!=", low)]
            for _ in range(chance.randint(3, 5) - len(where)):
                one, other = chance.choice((tight, *columns)), chance.choice(columns)
                fits = dict(uses)[one[0]] != dict(uses)[other[0]] or one[2] == other[2]
                operand = other if fits and chance.random() < 0.4 else chance.randint(0, 3)
                where.append((one, chance.choice(("!=", "!=", "<=", ">=")), operand))
            select = Select(uses, (chance.choice(columns),), tuple(where))
            kind = chance.choice(("insert", "delete", "replace"))
            templates = [(chance.choice(("?n", "?m")),) for _ in range(1 + (kind == "replace"))]
            shape = (kind, "n", *templates)
            parameters = sorted({template[0] for template in templates})
            bounds = tuple((chance.choice(parameters), chance.choice(("!=", "<=", ">=")),
                            chance.choice((*parameters, 0, 1, 2))) for _ in range(chance.randint(1, 4)))
            if self.check(chance, shape, bounds, select, tables, seen) is not None:
                for change in changes_of(shape, bounds, chance, 40):
                    for store in chance.sample(stores, 5):
                        self.assertFalse(turned(select, store, change), (shape, bounds, select.text(), store.text()))
        self.assertGreater(min(seen.count("case"), seen.count("certificate"), seen.count("split")), 100)

    def test_certificates_spoilt_at_any_place(self):
        chance = random.Random(113)
        values = [*any_values(), ".new", ".old", "?x", "?n", "u", "v", "ann", 0, "=", "!=", "<", "<=", "way", "split"]
        right, wrong, count = 0, 0, 0
        while count < 500:
            tables = make_tables(chance)
            shape = make_shape(chance, tables)
            bounds, select = make_bounds(chance, shape), make_plain_select(chance, tables)
            found = turning_case(shape, bounds, select, *tables)
            if found[0] == "certificate":
                count += 1
                for _ in range(12):
                    thing = spoilt(chance, found[1], values)
                    expected = is_certificate(thing, shape, bounds, select, tables)
                    self.assertIs(certificate_holds(shape, bounds, select, thing, *tables), expected, thing)
                    right, wrong = right + expected, wrong + (not expected)
        self.assertGreater(right, 500)
        self.assertGreater(wrong, 3000)

    def test_certificates_of_others(self):
        chance = random.Random(114)
        known = []
        while len(known) < 150:
            tables = [T, S]
            shape = make_shape(chance, tables)
            bounds, select = make_bounds(chance, shape), make_plain_select(chance, tables)
            found = turning_case(shape, bounds, select, *tables)
            if found[0] == "certificate":
                known.append((shape, bounds, select, found[1]))
        held = 0
        for (shape, bounds, select, _), (_, _, _, thing) in itertools.product(known, known):
            expected = is_certificate(thing, shape, bounds, select, tables)
            self.assertIs(certificate_holds(shape, bounds, select, thing, *tables), expected)
            held += expected
        self.assertLess(held, len(known) * len(known) // 2)

    def test_names_that_must_be_others(self):
        names = ("a", "b", "c", "d")
        shapes = [("insert", "t", ("?x", "?n")), ("delete", "t", ("?x", "?n")),
                  ("replace", "t", ("?x", "?n"), ("?y", "?n"))]
        seen = []
        for count in range(5):
            select = Select(ONE, ("u.a",), tuple(("u.a", "!=", name) for name in names[:count]))
            bounds = tuple(("?x", "!=", name) for name in names[count:])
            for shape in shapes:
                self.check(None, shape, bounds, select, [T], seen)
        self.assertEqual(seen.count("case"), 15)

    def test_nothing_is_changed(self):
        shape, bounds = ("insert", "t", ("?x", "?n")), (("?n", "<=", 3),)
        select = Select(ONE, ("u.a",), (("u.p", ">=", 4),))
        first = turning_case(shape, bounds, select, T, S)
        self.assertEqual(first, turning_case(shape, bounds, select, T, S))
        self.assertEqual((shape, bounds, select), (("insert", "t", ("?x", "?n")), (("?n", "<=", 3),), RICH))
        _, store, change = turning_case(shape, (), select, T, S)
        store.do(change)
        self.assertEqual(turning_case(shape, (), select, T, S)[1].do(change), (True,))


def clash(*facts):
    return ("clash", facts)


class ByHand(unittest.TestCase):
    """Certificates of each form of tree, written by hand."""

    def holds(self, shape, bounds, select, thing, *tables):
        found = certificate_holds(shape, bounds, select, thing, *tables)
        self.assertIs(is_certificate(thing, shape, bounds, select, tables), found, thing)
        return found

    def check(self, shape, bounds, select, thing, *tables):
        """It holds, and spoilt at any place it holds only if it is still one."""
        self.assertTrue(self.holds(shape, bounds, select, thing, *tables), thing)
        chance = random.Random(repr(thing))
        values = any_values()
        wrong = 0
        for path in places_in(thing):
            for value in chance.sample(values, 12):
                wrong += not self.holds(shape, bounds, select, put_at(thing, path, value), *tables)
        for _ in range(300):
            self.holds(shape, bounds, select, spoilt(chance, thing, [*values, ".new", ".old", "u", "v"]), *tables)
        self.assertGreater(wrong, 0)

    def test_clash_of_two_names(self):
        shape, bounds = ("insert", "s", ("?x", "?y")), (("?x", "=", "ann"), ("?x", "=", "?y"))
        select = Select((("u", "s"),), ("u.b",), (("u.c", "=", "bob"),))
        one, two, three = ("?x", "=", "ann"), ("?x", "=", "?y"), ("?y", "=", "bob")
        right = [(one, two, three), (three, two, one), (one, one, one, two, three), (one, two, two, two, three),
                 (one, two, three, three, three), (one,) * 501 + (two,) * 701 + (three,) * 301,
                 (one, two, three, three, two, two, three)]
        wrong = [(), (one,), (one, two), (two, three), (one, three), (one, three, two), (two, one, three),
                 (two, three, one),
                 (one, one, two, three), (one, two, two, three), (one,) * 500 + (two, three), (one, two, three, three),
                 (one, two, three, three, two, one), (("ann", "=", "?x"), two, three), (one, two, ("bob", "=", "?y")),
                 (one, two, ("?y", "=", "cat")), (("ann", "=", "bob"),), (one, two, ("?y", "!=", "bob")),
                 (one, two, list(three)), (one, two, (*three, "bob")), (one, two, "?y = bob")]
        for facts in right:
            self.assertTrue(self.holds(shape, bounds, select, (("comes", (0,), ("clash", facts)),), S), facts)
        for facts in wrong:
            self.assertFalse(self.holds(shape, bounds, select, (("comes", (0,), ("clash", facts)),), S), facts)
        self.assertFalse(self.holds(shape, bounds, select, (("comes", (0,), ("clash", [one, two, three])),), S))
        self.check(shape, bounds, select, (("comes", (0,), clash(one, two, three)),), S)

    def test_facts_that_are_no_chain(self):
        # What is not between neighbouring terms is no clash, even where the outer terms would be one.
        pair = Table("m", ("x", "y"), ("p", "q"))
        shape, uses = ("insert", "m", ("ann", "?y", 4, "?q")), (("u", "m"), ("v", "m"))
        bounds = (("?y", "=", "bob"), ("?q", "<=", 9), ("?q", "<=", 3), ("?q", "=", 7))
        where = (("u.x", "=", "v.x"), ("u.p", "!=", "v.p"), ("v.p", "<=", 3), ("u.p", "=", "v.p"))
        select = Select(uses, ("u.x",), where)
        apart = clash(("?q", "=", 7), ("?q", "<=", 3))
        thing = [("comes", (0,), apart), ("comes", (0, 1), apart), ("comes", (1,), apart)]
        self.assertTrue(self.holds(shape, bounds, select, tuple(thing), pair))
        for facts in [(("?y", "=", "bob"), ("ann", "=", "v.x")), (("ann", "=", "v.x"), ("?y", "=", "bob")),
                      (("?q", "<=", 9), ("?q", "<=", 3)), ((4, "!=", "v.p"), ("v.p", "<=", 3)),
                      (("?q", "=", 7), ("v.p", "<=", 3)), (("?q", "<=", 9), (4, "=", "v.p"), ("v.p", "<=", 3))]:
            thing[0] = ("comes", (0,), ("clash", facts))
            self.assertFalse(self.holds(shape, bounds, select, tuple(thing), pair), facts)
        for facts in [((4, "=", "v.p"), ("v.p", "<=", 3)), ((4, "=", "v.p"), (4, "!=", "v.p"))]:
            thing[0] = ("comes", (0,), ("clash", facts))
            self.assertTrue(self.holds(shape, bounds, select, tuple(thing), pair), facts)

    def test_what_is_not_equal_turned_round_behind_a_longer_chain(self):
        shape, bounds = ("insert", "s", ("?x", "?y")), (("?x", "=", "?y"), ("?y", "=", "ann"), ("?x", "!=", "ann"))
        one, two, three = bounds
        for facts, expected in [((one, two, three), True), ((two, one, three), True), ((two, three), False),
                                ((three, one, two), False), ((one, three, two), False)]:
            thing = (("comes", (0,), ("clash", facts)),)
            self.assertIs(self.holds(shape, bounds, Select((("u", "s"),), ("u.b",)), thing, S), expected)

    def test_one_name_twice_is_no_clash(self):
        shape, bounds = ("insert", "s", ("?x", "?y")), (("?x", "=", "ann"), ("?y", "=", "ann"), ("?x", "=", "?y"))
        select = Select((("u", "s"),), ("u.b",), (("u.c", "=", "ann"),))
        for facts in [(("?x", "=", "ann"), ("?x", "=", "?y"), ("?y", "=", "ann")),
                      (("?y", "=", "ann"), ("?y", "=", "ann"))]:
            self.assertFalse(self.holds(shape, bounds, select, (("comes", (0,), ("clash", facts)),), S))

    def test_clash_of_what_is_not_equal(self):
        shape, bounds = ("insert", "s", ("?x", "?y")), (("?x", "=", "?y"), ("?x", "!=", "?x"), ("?y", "=", "ann"))
        select = Select((("u", "s"),), ("u.b",), (("u.b", "!=", "u.c"), ("u.c", "!=", "u.b")))
        equal, apart, turned_round, alone = (("?x", "=", "?y"), ("?x", "!=", "?y"), ("?y", "!=", "?x"),
                                             ("?x", "!=", "?x"))
        for facts in [(equal, apart), (equal, turned_round), (alone,), (equal, equal, alone),
                      (equal,) * 401 + (apart,)]:
            self.assertTrue(self.holds(shape, bounds, select, (("comes", (0,), ("clash", facts)),), S), facts)
        for facts in [(apart, equal), (apart,), (equal, alone), (alone, alone), (equal, equal, apart), (alone, equal),
                      (("?y", "=", "?x"), apart), (("?y", "=", "ann"), apart), (equal, ("?y", "=", "ann"), apart),
                      (apart, turned_round), (equal, apart, apart)]:
            self.assertFalse(self.holds(shape, bounds, select, (("comes", (0,), ("clash", facts)),), S), facts)
        self.check(shape, bounds, select, (("comes", (0,), clash(equal, turned_round)),), S)

    def test_clash_of_numbers(self):
        shape = ("insert", "t", ("?x", "?n"))
        bounds = (("?n", "<=", 3), ("?n", "=", 7), ("?n", ">=", 5), ("?n", "=", 2))
        select = Select(ONE, ("u.a",), (("u.p", ">=", 4),))
        up, seven, five, two, four = ("?n", "<=", 3), ("?n", "=", 7), (5, "<=", "?n"), ("?n", "=", 2), (4, "<=", "?n")
        for facts in [(four, up), (five, up), (seven, up), (seven, two), (five, two), (four, two),
                      (seven, seven, seven, up),
                      (five, two, two, two), (seven,) * 301 + (two,) * 101]:
            self.assertTrue(self.holds(shape, bounds, select, (("comes", (0,), ("clash", facts)),), T), facts)
        for facts in [(up, four), (up,), (two, seven), (two, up), (five, seven), (four, five), (two, five),
                      (seven, seven),
                      (four, four, up), (four, up, up), (("?n", ">=", 4), up), (four, ("?n", "<=", 4)),
                      (seven, two, two),
                      ((True, "<=", "?n"), up), ((4, "<=", "?n", 4), up), (("4", "<=", "?n"), up)]:
            self.assertFalse(self.holds(shape, bounds, select, (("comes", (0,), ("clash", facts)),), T), facts)
        self.check(shape, bounds, select, (("comes", (0,), clash(four, up)),), T)

    def test_a_bool_is_no_number(self):
        shape, bounds = ("insert", "n", ("?n",)), (("?n", "<=", 0),)
        select = Select((("u", "n"),), ("u.p",), (("u.p", ">=", 1),))
        for one, zero, expected in [(1, 0, True), (True, 0, False), (1, False, False)]:
            thing = (("comes", (0,), clash((one, "<=", "?n"), ("?n", "<=", zero))),)
            self.assertIs(self.holds(shape, bounds, select, thing, NUMBERS), expected)
        tree = clash((1, "<=", "?n"), ("?n", "<=", 0))
        self.assertFalse(self.holds(shape, bounds, select, (("comes", (False,), tree),), NUMBERS))
        self.assertFalse(self.holds(shape, bounds, select, (("comes", [0], tree),), NUMBERS))
        self.assertFalse(self.holds(shape, bounds, select, [("comes", (0,), tree)], NUMBERS))
        self.assertFalse(self.holds(shape, bounds, select, (["comes", (0,), tree],), NUMBERS))
        self.assertFalse(self.holds(shape, bounds, select, ("comes", (0,), tree), NUMBERS))

    def test_ways_with_the_old_and_the_new_row(self):
        shape, select = ("replace", "t", ("?x", "?n"), ("?x", "?m")), Select(ONE, ("u.a",), (("u.a", "!=", "bob"),))
        equal, tree = clash(("?x", "!=", "?x")), clash(("?x", "!=", "bob"), ("?x", "=", "bob"))
        unequal = clash(("?x", "=", "bob"), ("?x", "!=", "bob"))
        way = ("way", (".old",), (unequal, equal))
        thing = (("comes", (0,), way), ("goes", (0,), ("way", (".new",), (unequal, equal))))
        self.check(shape, (), select, thing, T)
        for comes, goes in [(".new", ".new"), (".old", ".old"), (".new", ".old"), ("u", ".new"), (".old", "u")]:
            changed = tuple((part, places, ("way", (row,), (unequal, equal)))
                            for (part, places, _), row in zip(thing, (comes, goes)))
            self.assertFalse(self.holds(shape, (), select, changed, T))
        for trees in [(equal, unequal), (unequal,), (unequal, equal, equal), (tree, equal), [unequal, equal], ()]:
            self.assertFalse(self.holds(shape, (), select, (("comes", (0,), ("way", (".old",), trees)), thing[1]), T))
        self.assertFalse(self.holds(shape, (), select, thing[::-1], T))
        self.assertFalse(self.holds(shape, (), select, thing[:1], T))
        self.assertFalse(self.holds(shape, (), select, (*thing, thing[1]), T))

    def test_ways_with_aliases(self):
        shape, bounds = ("insert", "t", ("?x", "?n")), (("?n", "<=", 3),)
        select = Select(PAIR, ("v.a",), (("v.p", ">=", 4),))
        low = clash((4, "<=", "?n"), ("?n", "<=", 3))
        ways = (clash((4, "<=", "v.p"), ("v.p", "<", 4)), clash(("v.a", "!=", "v.a")))
        thing = (("comes", (0,), ("way", ("v", "v"), ways)), ("comes", (0, 1), low), ("comes", (1,), low))
        self.check(shape, bounds, select, thing, T)
        for names in [("u", "v"), ("v",), ("v", "v", "v"), (".new", "v"), ("v", ".new"), (".old", "v"), ["v", "v"],
                      "vv",
                      ("v", None), ("v", ("v",)), (), ("w", "v"), ("v.a", "v")]:
            self.assertFalse(self.holds(shape, bounds, select, (("comes", (0,), ("way", names, ways)), *thing[1:]), T))
        for places in [(1,), (0, 1), (), (0, 0), (2,)]:
            self.assertFalse(self.holds(shape, bounds, select, (("comes", places, thing[0][2]), *thing[1:]), T))
        for order in itertools.permutations(thing):
            self.assertIs(self.holds(shape, bounds, select, order, T), order == thing)
        self.assertFalse(self.holds(shape, bounds, select, (("goes", *thing[0][1:]), *thing[1:]), T))

    def test_a_way_with_a_row_of_another_table(self):
        other = Table("o", ("a",), ("p",))
        shape, bounds = ("insert", "t", ("?x", "?n")), (("?x", "=", "ann"), ("?x", "=", "bob"))
        select = Select((("u", "t"), ("v", "o")), ("v.a",))
        tree = clash(("ann", "=", "?x"))
        self.assertTrue(self.holds(shape, bounds, select, (("comes", (0,), clash(*[
            ("?x", "=", name) for name in ("ann", "bob")])),), T, other))
        for names in [("v", "v"), (".new", "v"), ("v", ".new")]:
            way = ("way", names, (clash(("v.a", "!=", "v.a")),))
            self.assertFalse(self.holds(shape, bounds, select, (("comes", (0,), way),), T, other))
        self.assertFalse(self.holds(shape, bounds, select, (("comes", (0,), tree),), T, other))

    def test_keys(self):
        uses = (("u", "s"), ("v", "s"))
        shape = ("delete", "s", ("ann", "?y"))
        select = Select(uses, ("u.b",), (("u.b", "=", "ann"), ("v.b", "=", "ann"), ("u.c", "!=", "v.c")))
        first = ("key", ".old", "v", clash(("?y", "=", "v.c"), ("?y", "!=", "v.c")),
                 (clash(("v.b", "=", "ann"), ("ann", "!=", "v.b")),))
        last = ("key", ".old", "u", clash(("?y", "=", "u.c"), ("u.c", "!=", "?y")),
                (clash(("u.b", "=", "ann"), ("ann", "!=", "u.b")),))
        thing = (("goes", (0,), first), ("goes", (0, 1), clash(("?y", "!=", "?y"))), ("goes", (1,), last))
        self.check(shape, (), select, thing, S)
        turned_round = ("key", "v", ".old", clash(("v.c", "=", "?y"), ("?y", "!=", "v.c")),
                        (clash(("v.b", "=", "ann"), ("v.b", "!=", "ann")),))
        self.assertTrue(self.holds(shape, (), select, (("goes", (0,), turned_round), *thing[1:]), S))
        for one, other in [("v", "v"), (".old", ".old"), (".new", "v"), (".old", "u"), (".old", ".new"), ("v", ".old"),
                           (".old", None), (".old", ["v"]), ("v", "u")]:
            self.assertFalse(self.holds(shape, (), select,
                                        (("goes", (0,), ("key", one, other, *first[3:])), *thing[1:]), S))
        for same, trees in [(first[3], ()), (first[3], first[4] * 2), (first[4][0], first[4]),
                            (first[3], list(first[4])),
                            (first[3], first[4][0]), (first[4], first[3])]:
            self.assertFalse(self.holds(shape, (), select,
                                        (("goes", (0,), ("key", ".old", "v", same, trees)), *thing[1:]), S))
        # Without a key, or with another one, the same is no certificate.
        self.assertFalse(self.holds(shape, (), select, thing, Table("s", ("b", "c"))))
        self.assertFalse(self.holds(shape, (), select, thing, Table("s", ("b", "c"), (), ("b", "c"))))
        self.assertFalse(self.holds(shape, (), select, thing, Table("s", ("b", "c"), (), ("c",))))

    def test_a_key_of_one_row_or_of_two_tables(self):
        # All branches are closed; still these are no two rows of one table.
        other = Table("o", ("b", "c"), (), ("b",))
        shape, bounds = ("delete", "s", ("ann", "?y")), (("?y", "!=", "?y"),)
        select = Select((("u", "s"), ("v", "o")), ("u.b",))
        right = clash(("?y", "!=", "?y"))
        self.assertTrue(self.holds(shape, bounds, select, (("goes", (0,), right),), S, other))
        for tree in [("key", ".old", "v", right, ()), ("key", "v", ".old", right, ()),
                     ("key", "v", "v", right, (right,)), ("key", ".old", ".old", right, (right,)),
                     ("key", ".old", "v", right, (right,)), ("apart", ".old", "v", (right, right)),
                     ("apart", ".old", "v", ()), ("apart", ".old", ".old", (right, right))]:
            self.assertFalse(self.holds(shape, bounds, select, (("goes", (0,), tree),), S, other), tree)
        same_table = Select((("u", "s"), ("v", "s")), ("u.b",))
        for first, second in [(".old", "v"), ("v", ".old"), ("v", "v"), (".old", ".old")]:
            tree = ("key", first, second, right, (right,))
            thing = (("goes", (0,), tree), ("goes", (0, 1), right), ("goes", (1,), right))
            self.assertIs(self.holds(shape, bounds, same_table, thing, S), first != second)

    def test_a_key_before_and_after_but_not_between(self):
        # The old and the new row of a replace are never there together.
        shape, bounds = ("replace", "s", ("ann", "?y"), ("ann", "?z")), (("?y", "!=", "?z"),)
        select = Select((("u", "s"),), ("u.b",), (("u.c", "=", "cat"),))
        key = ("key", ".old", ".new", clash(("?y", "=", "?z"), ("?y", "!=", "?z")), (clash(("ann", "!=", "ann")),))
        self.assertEqual(turning_case(shape, bounds, select, S)[0], "case")
        for tree in (key, ("key", ".new", ".old", *key[3:])):
            self.assertFalse(self.holds(shape, bounds, select, (("comes", (0,), tree), ("goes", (0,), tree)), S))

    def test_apart(self):
        shape = ("replace", "t", ("?x", "?n"), ("?x", "?m"))
        select = Select(PAIR, ("u.a",), (("u.a", "=", "v.a"), ("u.p", "=", "v.p")))

        def apart(row, alias, number):
            name = ("?x", "=", f"{alias}.a") if alias == "v" else (f"{alias}.a", "=", "?x")
            count = (number, "=", f"{alias}.p") if alias == "v" else (f"{alias}.p", "=", number)
            return ("apart", row, alias,
                    (clash(name, ("?x", "!=", f"{alias}.a")), clash(count, (number, "!=", f"{alias}.p"))))

        def way(row, number):
            return ("way", (row, row),
                    (clash(("?x", "!=", "?x")), clash((number, "!=", number)), clash(("?x", "!=", "?x"))))

        thing = (("comes", (0,), apart(".new", "v", "?m")), ("comes", (0, 1), way(".old", "?n")),
                 ("comes", (1,), apart(".new", "u", "?m")), ("goes", (0,), apart(".old", "v", "?n")),
                 ("goes", (0, 1), way(".new", "?m")), ("goes", (1,), apart(".old", "u", "?n")))
        self.check(shape, (), select, thing, T)
        word, row, alias, trees = thing[0][2]
        for tree in [(word, alias, row, trees), (word, ".old", alias, trees), (word, row, "u", trees),
                     (word, row, row, trees),
                     (word, row, ".old", trees), (word, row, alias, trees[::-1]), (word, row, alias, trees[:1]),
                     (word, row, alias, (*trees, trees[0])), (word, row, alias, list(trees)), (word, row, None, trees),
                     (word, [row], alias, trees), (word, row, alias), (word, row, alias, *trees)]:
            self.assertFalse(self.holds(shape, (), select, (("comes", (0,), tree), *thing[1:]), T))

    def test_apart_where_nothing_else_closes_a_branch(self):
        # The other row of the match could only be the one that comes, or the one that goes.
        shape = ("replace", "t", ("ann", 5), ("bob", 3))
        select = Select(PAIR, ("u.a",), (("u.a", "=", "ann"), ("u.p", "=", 5), ("v.a", "=", "bob"), ("v.p", "=", 3)))
        kind, certificate = turning_case(shape, (), select, T)
        self.assertEqual((kind, words_in(certificate).count("apart")), ("certificate", 2))
        self.assertTrue(self.holds(shape, (), select, certificate, T))
        self.assertEqual(turning_case(("replace", "t", ("ann", 5), ("bob", 4)), (), select, T)[0], "case")

    def test_splits(self):
        shape, bounds = ("insert", "t", ("?x", "?n")), (("?n", ">=", 3), ("?n", "<=", 4), ("?n", "!=", 3))
        select = Select(ONE, ("u.a",), (("u.p", "!=", 4),))
        low, high = (3, "<=", "?n"), ("?n", "<=", 4)
        inner = ("split", ("?n", "!=", 4), clash((3, "<", "?n"), ("?n", "<", 4)), clash((4, "<", "?n"), high))
        tree = ("split", ("?n", "!=", 3), clash(low, ("?n", "<", 3)), inner)
        thing = (("comes", (0,), tree),)
        self.check(shape, bounds, select, thing, T)
        for wrong in [("split", ("?n", "!=", 4), *tree[2:]), ("split", (3, "!=", "?n"), *tree[2:]), tree[:3],
                      ("split", ("?n", "=", 3), *tree[2:]), ("split", tree[1], tree[3], tree[2]), (*tree, tree[3]),
                      ("split", low, *tree[2:]), ("split", ("?n", "!=", 5), *tree[2:]), ("split", tree[1], tree[2:]),
                      ("split", list(tree[1]), *tree[2:]), inner]:
            self.assertFalse(self.holds(shape, bounds, select, (("comes", (0,), wrong),), T))

    def test_facts_that_are_not_there_are_not_split(self):
        shape, bounds = ("insert", "n", ("?n",)), (("?n", ">=", 3), ("?n", "<=", 3))
        select = Select((("u", "n"),), ("u.p",))
        less, more = clash((3, "<=", "?n"), ("?n", "<", 3)), clash((3, "<", "?n"), ("?n", "<=", 3))
        thing = (("comes", (0,), ("split", ("?n", "!=", 3), less, more)),)
        self.assertFalse(self.holds(shape, bounds, select, thing, NUMBERS))
        self.assertTrue(self.holds(shape, (*bounds, ("?n", "!=", 3)), select, thing, NUMBERS))
        self.assertFalse(self.holds(shape, (*bounds, ("?n", "=", 3)), select, thing, NUMBERS))
        self.assertEqual(turning_case(shape, bounds, select, NUMBERS)[0], "case")

    def test_names_are_not_split(self):
        shape, bounds = ("insert", "t", ("?x", "?n")), (("?x", "!=", "ann"), ("?x", "=", "ann"))
        right = clash(("?x", "=", "ann"), ("?x", "!=", "ann"))
        self.assertTrue(self.holds(shape, bounds, Select(ONE, ("u.a",)), (("comes", (0,), right),), T))
        wrong = ("split", ("?x", "!=", "ann"), right, right)
        self.assertFalse(self.holds(shape, bounds, Select(ONE, ("u.a",)), (("comes", (0,), wrong),), T))

    def test_a_branch_has_what_was_found_above_it_and_nothing_of_its_neighbours(self):
        shape = ("insert", "n", ("?n",))
        bounds = (("?n", "!=", 1), ("?n", ">=", 1), ("?n", "<=", 1))
        select = Select((("u", "n"),), ("u.p",))
        less, more = clash((1, "<=", "?n"), ("?n", "<", 1)), clash((1, "<", "?n"), ("?n", "<=", 1))
        for trees, expected in [((less, more), True), ((more, less), False), ((less, less), False),
                                ((more, more), False)]:
            thing = (("comes", (0,), ("split", ("?n", "!=", 1), *trees)),)
            self.assertIs(self.holds(shape, bounds, select, thing, NUMBERS), expected)

    def test_deep_and_large_trees(self):
        shape = ("insert", "n", ("?n",))
        bounds = (("?n", "!=", 1), ("?n", ">=", 1), ("?n", "<=", 1))
        select = Select((("u", "n"),), ("u.p",))
        less, more = clash((1, "<=", "?n"), ("?n", "<", 1)), clash((1, "<", "?n"), ("?n", "<=", 1))
        tree = more
        for _ in range(90):
            tree = ("split", ("?n", "!=", 1), less, tree)
        self.assertTrue(self.holds(shape, bounds, select, (("comes", (0,), tree),), NUMBERS))
        tree = more
        for _ in range(90):
            tree = ("split", ("?n", "!=", 1), tree, more)
        self.assertFalse(self.holds(shape, bounds, select, (("comes", (0,), tree),), NUMBERS))
        tree = ("split", ("?n", "!=", 1), clash((1, "<=", "?n"), ("?n", "<", 1)), clash(*[(1, "<", "?n")] * 6000))
        self.assertFalse(self.holds(shape, bounds, select, (("comes", (0,), tree),), NUMBERS))
        for kind in ("tuple", "list", "dict"):
            for thing in (nested(kind, 99), (("comes", (0,), nested(kind, 97)),), (nested(kind, 98),)):
                self.assertFalse(self.holds(shape, bounds, select, thing, NUMBERS))

    def test_no_use_of_the_table(self):
        shape = ("insert", "s", ("?x", "?y"))
        self.assertEqual(turning_case(shape, (), RICH, T, S), ("certificate", ()))
        self.assertTrue(self.holds(shape, (), RICH, (), T, S))
        self.assertFalse(self.holds(shape, (), RICH, (("comes", (), clash()),), T, S))
        self.assertFalse(self.holds(("insert", "t", ("?x", "?n")), (), RICH, (), T, S))
        self.assertFalse(self.holds(shape, (), RICH, [], T, S))


class CaseHolds(unittest.TestCase):
    SHAPE = ("replace", "t", ("?x", "?n"), ("?x", "?m"))
    BOUNDS = (("?m", ">=", "?n"), ("?x", "!=", "cat"))

    def holds(self, store, change, tables=(T, S)):
        return case_holds(self.SHAPE, self.BOUNDS, RICH, (store, change), *tables)

    def test_right_ones(self):
        change = ("replace", "t", ("ann", 3), ("ann", 4))
        self.assertIs(self.holds(store_with(T, S, t=[("ann", 3)]), change), True)
        store = store_with(T, S, t=[("ann", 3), ("bob", 7), ("cat", 9), ("dog", 1)], s=[("ann", "x"), ("bob", "y")])
        self.assertIs(self.holds(store, change), True)
        self.assertEqual(len(store), 6)
        self.assertEqual(("t", ("ann", 3)) in store, True)

    def test_other_tables(self):
        change = ("replace", "t", ("ann", 3), ("ann", 4))
        for tables in [(S, T), (T,), (T, S, Table("o", ("a",))), (T, Table("s", ("b", "c"))),
                       (Table("t", ("a",), ("p",), ("a",)), S)]:
            self.assertIs(self.holds(store_with(*tables, t=[("ann", 3)]), change), False)
            self.assertIs(self.holds(store_with(*tables, t=[("ann", 3)]), change, tables), True)

    def test_changes_that_are_none(self):
        store = store_with(T, S, t=[("ann", 3), ("ann", 2), ("cat", 3)])
        for change in [
                ("replace", "t", ("bob", 3), ("bob", 4)), ("replace", "t", ("ann", 3), ("ann", 3)),
                ("replace", "t", ("ann", 3), ("bob", 4)), ("replace", "t", ("ann", 3), ("ann", 2)),
                ("replace", "t", ("cat", 3), ("cat", 4)), ("insert", "t", ("ann", 4)), ("delete", "t", ("ann", 3)),
                ("replace", "s", ("ann", "x"), ("ann", "y")), ("replace", "t", ("ann", 2), ("ann", 3)),
                ("replace", "t", ("ann", 3)), ["replace", "t", ("ann", 3), ("ann", 4)],
                ("replace", "t", ["ann", 3], ("ann", 4)), ("replace", "t", ("ann", 3), ("ann", 4), ("ann", 4)), None]:
            self.assertIs(self.holds(store, change), False, change)
        self.assertIs(self.holds(store, ("replace", "t", ("ann", 3), ("ann", 4))), True)

    def test_answers_that_do_not_turn(self):
        change = ("replace", "t", ("ann", 3), ("ann", 4))
        self.assertIs(self.holds(store_with(T, S, t=[("ann", 3), ("ann", 9)]), change), False)

    def test_templates_with_values(self):
        store = store_with(T, S, t=[("ann", 3)])
        for template, expected in [(("bob", 4), True), (("bob", "?n"), True), (("?x", 4), True), (("ann", "?n"), False),
                                   (("?x", 5), False)]:
            shape = ("insert", "t", template)
            self.assertIs(case_holds(shape, (), RICH, (store, ("insert", "t", ("bob", 4))), T, S), expected)

    def test_parameters_that_stand_twice(self):
        pair = Table("m", ("x", "y"), ("p", "q"))
        select = Select((("u", "m"),), ("u.x",))
        for row, expected in [(("a", "a", 1, 1), True), (("a", "b", 1, 1), False), (("a", "a", 1, 2), False)]:
            found = case_holds(("insert", "m", ("?x", "?x", "?n", "?n")), (), select,
                               (Store(pair), ("insert", "m", row)), pair)
            self.assertIs(found, expected)

    def test_bounds(self):
        shape, select = ("insert", "t", ("?x", "?n")), Select(ONE, ("u.a",))
        for bounds, expected in [((("?n", "=", 4),), True), ((("?n", "!=", 4),), False), ((("?n", "<=", 4),), True),
                                 ((("?n", "<=", 3),), False), ((("?n", ">=", 4),), True), ((("?n", ">=", 5),), False),
                                 ((("?x", "=", "ann"),), True), ((("?x", "=", "bob"),), False),
                                 ((("?x", "!=", "?x"),), False),
                                 ((("?x", "=", "?x"), ("?n", "<=", "?n"), ("?n", ">=", 9)), False)]:
            self.assertIs(case_holds(shape, bounds, select, (Store(T), ("insert", "t", ("ann", 4))), T), expected)

    def test_any_values(self):
        store, change = store_with(T, S, t=[("ann", 3)]), ("replace", "t", ("ann", 3), ("ann", 4))
        things = [*any_values(), (store,), (store, change, change), [store, change], (change, store)]
        for value in any_values():
            things += [(store, value), (value, change)]
            changes = [put_at(change, path, value) for path in places_in(change)]
            things += [(store, thing) for thing in changes if thing not in (change, (*change[:3], ("ann", 10 ** 39)))]
        for thing in things:
            self.assertIs(case_holds(self.SHAPE, self.BOUNDS, RICH, thing, T, S), False, thing)
        self.assertIs(self.holds(store, change), True)
        self.assertEqual(store, store_with(T, S, t=[("ann", 3)]))


class Errors(unittest.TestCase):
    FUNCTIONS = [lambda shape, bounds, select, *tables: turning_case(shape, bounds, select, *tables),
                 lambda shape, bounds, select, *tables: case_holds(shape, bounds, select, None, *tables),
                 lambda shape, bounds, select, *tables: certificate_holds(shape, bounds, select, None, *tables)]
    SHAPE = ("insert", "t", ("?x", "?n"))

    def test_shapes_and_bounds_ahead_of_questions(self):
        wrong_bounds = [(("?n", "<=", 1),) * 5, (("?m", "=", 1),), (("?x", "<=", "ann"),), None, [("?n", "=", 1)]]
        for function in self.FUNCTIONS:
            for shape in [*any_values(), ("insert", "t", ("?x",)), ("insert", "z", ("?x", "?n"))]:
                for bounds, select in [((), RICH), (None, None)]:
                    self.assertRaises(InvalidShape, function, shape, bounds, select, T, S)
            for bounds in [*wrong_bounds, *[value for value in any_values() if value != ()]]:
                for select in (RICH, None):
                    self.assertRaises(InvalidShape, function, self.SHAPE, bounds, select, T, S)

    def test_questions(self):
        three = Select((("u", "t"), ("v", "t"), ("w", "t")), ("u.a",))
        many = Select(ONE, ("u.a", "u.a"), (("u.p", ">=", 4),) * 5)
        first, groups = First(Select(ONE, ("u.p",)), "u.p", 1), Groups(ONE)
        wrong = [three, many, Select(ONE, ("u.a",), (("u.p", ">=", 4),) * 6), FREE, Union(RICH, RICH), first, groups,
                 Select(ONE, ("u.z",)), Select((("u", "z"),), ("u.a",)), Select(ONE, ("u.a",), (), ((ONE, ()),))]
        for function in self.FUNCTIONS:
            for thing in [*wrong, *any_values()]:
                if thing != RICH:
                    self.assertRaises(InvalidQuestion, function, self.SHAPE, (), thing, T, S)
            self.assertRaises(InvalidQuestion, function, ("insert", "s", ("?x", "?y")), (), RICH, S)
            for select in [Select(ONE, ("u.a",), (("u.p", ">=", 4),) * 5),
                           Select(ONE, ("u.a",) * 4, (("u.p", ">=", 4),) * 2),
                           Select(PAIR, ("u.a",))]:
                function(self.SHAPE, (), select, T, S)
