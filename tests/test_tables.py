"""Names and tables (points 2 and 4)."""

import itertools
import unittest

from tests.helpers import S, T, any_values
from whatturns.errors import InvalidTable, TurnError
from whatturns.tables import Table, is_name

NAMES = ["a", "z", "ann", "abcdefgh", "zzzzzzzz", "table", "row", "key", "as"]
NO_NAMES = ["", "abcdefghi", "A", "aB", "a1", "1", "a b", " a", "a ", "a.b", "a_b", "a-b", "?a", "-", "a\n", "\n",
            None, True, False, 0, 1, (), ("a",), ["a"], {"a": 1}, T]


class Names(unittest.TestCase):
    def test_names(self):
        for name in NAMES:
            self.assertIs(is_name(name), True, name)

    def test_others(self):
        for thing in NO_NAMES:
            self.assertIs(is_name(thing), False, thing)
        self.assertIs(is_name("\u00e4"), False)
        self.assertEqual([is_name(thing) for thing in any_values()].count(True), 3)
        self.assertIs(is_name(thing="ann"), True)


class Made(unittest.TestCase):
    def test_by_position(self):
        table = Table("t", ("a", "b"), ("p", "q"), ("a", "q"))
        self.assertEqual((table.name, table.names, table.numbers, table.key), ("t", ("a", "b"), ("p", "q"), ("a", "q")))
        self.assertEqual(table.columns, ("a", "b", "p", "q"))

    def test_by_name(self):
        table = Table(key=("q",), numbers=("q",), names=("a",), name="t")
        self.assertEqual((table.name, table.names, table.numbers, table.key), ("t", ("a",), ("q",), ("q",)))

    def test_with_defaults(self):
        table = Table("t", ("a",))
        self.assertEqual((table.numbers, table.key, table.columns), ((), (), ("a",)))

    def test_columns_of_one_kind(self):
        self.assertEqual(Table("t", (), ("p",)).columns, ("p",))
        self.assertEqual(Table("t", (), ("q", "p")).columns, ("q", "p"))
        self.assertEqual(Table("t", ("b", "a")).columns, ("b", "a"))

    def test_words_of_the_language(self):
        table = Table("table", ("table", "row"), ("key", "names"), ("row", "key"))
        self.assertEqual(table.columns, ("table", "row", "key", "names"))

    def test_every_key(self):
        columns = ("b", "a", "q", "p")
        for length in range(5):
            for key in itertools.product(columns, repeat=length):
                right = key in list(itertools.combinations(columns, length))
                if right:
                    self.assertEqual(Table("t", columns[:2], columns[2:], key).key, key)
                else:
                    self.assertRaises(InvalidTable, Table, "t", columns[:2], columns[2:], key)


class Wrong(unittest.TestCase):
    def wrong(self, *given):
        with self.assertRaises(InvalidTable) as context:
            Table(*given)
        self.assertIsInstance(context.exception, TurnError)

    def test_names_of_the_table(self):
        for name in NO_NAMES:
            self.wrong(name, ("a",))

    def test_names_of_columns(self):
        for name in NO_NAMES:
            self.wrong("t", (name,))
            self.wrong("t", ("a", name))
            self.wrong("t", ("a",), (name,))
            self.wrong("t", ("a",), ("p", name))
            self.wrong("t", ("a",), ("p",), (name,))

    def test_numbers_of_columns(self):
        self.wrong("t", ())
        self.wrong("t", (), ())
        self.wrong("t", (), (), ())
        self.wrong("t", ("a", "b", "c"))
        self.wrong("t", (), ("a", "b", "c"))
        self.wrong("t", ("a",), (), ("a", "a", "a", "a", "a"))

    def test_the_same_name_twice(self):
        self.wrong("t", ("a", "a"))
        self.wrong("t", (), ("p", "p"))
        self.wrong("t", ("a",), ("a",))
        self.wrong("t", ("a", "b"), ("p", "b"))
        self.wrong("t", ("a", "b"), (), ("a", "a"))

    def test_keys(self):
        self.wrong("t", ("a", "b"), (), ("b", "a"))
        self.wrong("t", ("a",), ("p",), ("p", "a"))
        self.wrong("t", ("a",), ("p",), ("q",))
        self.wrong("t", ("a",), ("p",), ("t",))

    def test_other_kinds(self):
        for thing in [None, True, 0, "", "a", "ab", ["a"], {"a": 1}, T]:
            self.wrong("t", thing)
            self.wrong("t", ("a",), thing)
            self.wrong("t", ("a",), ("p",), thing)

    def test_any_value(self):
        for thing in any_values():
            for given in [(thing, ("a",)), ("t", thing), ("t", ("a",), thing), ("t", ("a",), (), thing),
                          ("t", (thing,)), ("t", ("a",), (thing,)), ("t", ("a",), ("p",), (thing,))]:
                try:
                    Table(*given)
                except InvalidTable:
                    continue
                self.assertTrue(is_name(thing) or thing == () or thing == ("u",), given)


class Rows(unittest.TestCase):
    FOUR = Table("t", ("a", "b"), ("p", "q"), ("a", "p"))

    def test_rows(self):
        for row in [("ann", "bob", 0, 1), ("ann", "ann", -5, -5), ("a", "abcdefgh", 10 ** 12, -10 ** 12)]:
            self.assertIs(self.FOUR.is_row(row), True)
        self.assertIs(T.is_row(("ann", 5)), True)
        self.assertIs(S.is_row(("ann", "cat")), True)
        self.assertIs(Table("t", (), ("p",)).is_row((5,)), True)
        self.assertIs(T.is_row(thing=("ann", 10 ** 39)), True)

    def test_one_value_replaced(self):
        row = ("ann", "bob", 0, 1)
        for place in range(4):
            for thing in [None, True, False, 1, "cat", "Cat", "", "ninechars", "1", (), ("ann",), ["ann"], {}, T]:
                changed = (*row[:place], thing, *row[place + 1:])
                right = thing == "cat" if place < 2 else thing == 1 and not isinstance(thing, bool)
                self.assertIs(self.FOUR.is_row(changed), right, changed)

    def test_more_or_less(self):
        row = ("ann", "bob", 0, 1)
        for place in range(4):
            self.assertIs(self.FOUR.is_row(row[:place] + row[place + 1:]), False)
            self.assertIs(self.FOUR.is_row(row[:place] + row[place:place + 1] + row[place:]), False)
        self.assertIs(T.is_row(()), False)
        self.assertIs(T.is_row((5, "ann")), False)

    def test_other_kinds(self):
        self.assertIs(T.is_row(["ann", 5]), False)
        self.assertIs(T.is_row({"ann": 5}), False)
        for thing in any_values():
            self.assertIs(self.FOUR.is_row(thing), False)


class Clashes(unittest.TestCase):
    def test_with_a_key(self):
        self.assertIs(S.clash(("ann", "cat"), ("ann", "dog")), True)
        self.assertIs(S.clash(("ann", "cat"), ("bob", "cat")), False)
        self.assertIs(S.clash(one=("ann", "cat"), other=("ann", "cat")), True)

    def test_all_columns_of_the_key_count(self):
        table = Table("t", ("a", "b"), ("p", "q"), ("a", "q"))
        self.assertIs(table.clash(("x", "y", 1, 2), ("x", "z", 3, 2)), True)
        self.assertIs(table.clash(("x", "y", 1, 2), ("x", "y", 1, 3)), False)
        self.assertIs(table.clash(("x", "y", 1, 2), ("z", "y", 1, 2)), False)

    def test_without_a_key(self):
        self.assertIs(T.clash(("ann", 5), ("ann", 5)), False)
        self.assertIs(T.clash(("ann", 5), ("bob", 5)), False)

    def test_a_row_with_itself(self):
        for key in [("a",), ("b",), ("p",), ("q",), ("a", "b", "p", "q")]:
            table = Table("t", ("a", "b"), ("p", "q"), key)
            self.assertIs(table.clash(("x", "y", 1, 2), ("x", "y", 1, 2)), True)


class Equality(unittest.TestCase):
    def test_equal(self):
        self.assertTrue(Table("t", ("a",), ("p",), ("a",)) == Table("t", ("a",), ("p",), ("a",)))
        self.assertFalse(Table("t", ("a",), ("p",), ("a",)) != Table("t", ("a",), ("p",), ("a",)))
        self.assertTrue(Table("t", ("a",)) == Table("t", ("a",), (), ()))

    def test_each_argument_counts(self):
        base = Table("t", ("a", "b"), ("p",), ("a",))
        others = [Table("s", ("a", "b"), ("p",), ("a",)), Table("t", ("b", "a"), ("p",), ("a",)),
                  Table("t", ("a",), ("p",), ("a",)), Table("t", ("a", "b"), ("q",), ("a",)),
                  Table("t", ("a", "b"), (), ("a",)), Table("t", ("a", "b"), ("p",)),
                  Table("t", ("a", "b"), ("p",), ("b",))]
        for other in others:
            self.assertFalse(base == other)
            self.assertTrue(base != other)
        self.assertFalse(Table("t", ("a",)) == Table("t", (), ("a",)))

    def test_not_equal_to_anything_else(self):
        for thing in [value for value in any_values() if not isinstance(value, Table)]:
            self.assertFalse(T == thing)
            self.assertFalse(thing == T)
            self.assertTrue(T != thing)
        self.assertFalse(T == ("t", ("a",), ("p",), ()))
