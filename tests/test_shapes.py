"""Shapes and their bounds (point 23)."""

import random
import re
import unittest

from tests.certs import exact, places_in, put_at, spoilt
from tests.helpers import S, T, any_values, nested
from tests.making import make_tables
from tests.shaping import make_bounds, make_shape
from whatturns.errors import InvalidShape
from whatturns.shapes import are_bounds, is_shape
from whatturns.tables import Table

PAIR = Table("m", ("x", "y"), ("p", "q"))
TABLES = (T, S, PAIR)
RIGHT = [
    ("insert", "t", ("?x", "?n")), ("insert", "t", ("ann", 5)), ("delete", "t", ("?x", -3)),
    ("delete", "s", ("?x", "?x")),
    ("replace", "t", ("?x", "?n"), ("?x", "?m")), ("replace", "s", ("?a", "b"), ("a", "?abcdefgh")),
    ("insert", "m", ("?a", "?b", "?c", "?d")), ("replace", "m", ("?a", "?a", "?c", "?c"), ("x", "?a", "?c", 10 ** 12)),
    ("replace", "m", ("?a", "?b", "?c", "?d"), ("?e", "?f", "?g", "?h")), ("insert", "t", ("?insert", "?t"))]


def naive_shape(thing, tables):
    """By the words of point 23."""
    if not isinstance(thing, tuple) or not thing:
        return False
    if not isinstance(thing[0], str) or len(thing) != {"insert": 3, "delete": 3, "replace": 4}.get(thing[0]):
        return False
    found = [table for table in tables if isinstance(thing[1], str) and table.name == thing[1]]
    if not found:
        return False
    kinds = {}
    for template in thing[2:]:
        if not isinstance(template, tuple) or len(template) != len(found[0].columns):
            return False
        for column, entry in zip(found[0].columns, template):
            kind = "name" if column in found[0].names else "number"
            if isinstance(entry, str) and re.fullmatch(r"\?[a-z]{1,8}", entry):
                if kinds.setdefault(entry, kind) != kind:
                    return False
            elif kind == "name" and not (isinstance(entry, str) and re.fullmatch("[a-z]{1,8}", entry)):
                return False
            elif kind == "number" and type(entry) is not int:
                return False
    return True


def naive_bounds(thing, shape, tables):
    """By the words of point 23, for a shape of these tables."""
    if not isinstance(thing, tuple) or len(thing) > 4:
        return False
    table = [table for table in tables if table.name == shape[1]][0]
    kinds = {entry: column in table.names for template in shape[2:] for column, entry in zip(table.columns, template)
             if isinstance(entry, str) and entry.startswith("?")}
    for bound in thing:
        if not isinstance(bound, tuple) or len(bound) != 3:
            return False
        parameter, operator, operand = bound
        if not isinstance(parameter, str) or parameter not in kinds or not isinstance(operator, str):
            return False
        if operator not in (("=", "!=") if kinds[parameter] else ("=", "!=", "<=", ">=")):
            return False
        if isinstance(operand, str) and operand in kinds:
            fits = kinds[operand] == kinds[parameter]
        elif kinds[parameter]:
            fits = isinstance(operand, str) and re.fullmatch("[a-z]{1,8}", operand) is not None
        else:
            fits = type(operand) is int
        if not fits:
            return False
    return True


class Shapes(unittest.TestCase):
    def test_right_ones(self):
        for shape in RIGHT:
            self.assertIs(is_shape(shape, *TABLES), True, shape)
            self.assertIs(naive_shape(shape, TABLES), True)

    def test_wrong_ones(self):
        wrong = [
            ("insert", "t"), ("insert", "t", ("?x", 1), ("?y", 2)), ("delete", "t", ("?x", 1), ("?y", 2)),
            ("replace", "t", ("?x", 1)), ("replace", "t", ("?x", 1), ("?x", 1), ("?x", 1)),
            ["insert", "t", ("?x", "?n")],
            ("insert", "t", ["?x", "?n"]), ("change", "t", ("?x", "?n")), ("t", "insert", ("?x", "?n")),
            (True, "t", ("?x", "?n")), ("insert", "z", ("?x", "?n")), ("insert", True, ("?x", "?n")),
            ("insert", "t", ("?n", "?n")), ("insert", "t", ("?x", "?x")), ("insert", "t", (5, "ann")),
            ("insert", "t", ("?x", "ann")), ("insert", "t", (5, "?n")), ("insert", "t", ("?x", True)),
            ("insert", "t", ("?", "?n")), ("insert", "t", ("?x", "?")), ("insert", "t", ("?X", "?n")),
            ("insert", "t", ("?x1", "?n")), ("insert", "t", ("?abcdefghi", "?n")), ("insert", "t", ("??x", "?n")),
            ("insert", "t", ("Ann", "?n")), ("insert", "t", ("", "?n")), ("insert", "t", (None, "?n")),
            ("insert", "t", ("?x",)), ("insert", "t", ("?x", "?n", "?m")), ("insert", "t", ()),
            ("replace", "t", ("?x", "?n"), ("?n", "?m")), ("replace", "t", ("?x", "?n"), ("?y", "?x")),
            ("replace", "m", ("?a", "b", 1, 2), ("a", "b", "?a", 2)), ("insert", "t", ("x", "?n"), None)]
        for thing in [*wrong, *any_values()]:
            self.assertIs(is_shape(thing, *TABLES), False, thing)

    def test_tables_that_are_not_there(self):
        self.assertIs(is_shape(("insert", "t", ("?x", "?n")), T), True)
        self.assertIs(is_shape(("insert", "t", ("?x", "?n")), S), False)
        self.assertIs(is_shape(("insert", "t", ("?x", "?n")), Table("t", ("a",))), False)

    def test_any_value_at_any_place(self):
        values = any_values()
        for shape in RIGHT:
            for path in places_in(shape):
                for value in values:
                    thing = put_at(shape, path, value)
                    self.assertIs(is_shape(thing, *TABLES), naive_shape(thing, TABLES))

    def test_drawn_ones_and_spoilt_ones(self):
        chance = random.Random(101)
        values = [*any_values(), "?x", "?n", "?", "ann", "t", "insert", "delete", "replace", 7, "?N", ("?x",)]
        right = wrong = 0
        for _ in range(3000):
            tables = make_tables(chance)
            shape = make_shape(chance, tables)
            self.assertIs(is_shape(shape, *tables), True)
            for _ in range(3):
                thing = spoilt(chance, shape, values)
                expected = naive_shape(thing, tables)
                self.assertIs(is_shape(thing, *tables), expected, (thing, [table.columns for table in tables]))
                right, wrong = right + expected, wrong + (not expected)
        self.assertGreater(right, 1000)
        self.assertGreater(wrong, 3000)

    def test_deep_values(self):
        for kind in ("tuple", "list", "dict"):
            for thing in (nested(kind, 99), ("insert", "t", nested(kind, 97)),
                          ("insert", "t", ("?x", nested(kind, 96))),
                          (nested(kind, 98), "t", ("?x", 1)), ("insert", nested(kind, 98), ("?x", 1))):
                self.assertIs(is_shape(thing, *TABLES), False)


class Bounds(unittest.TestCase):
    SHAPE = ("replace", "t", ("?x", "?n"), ("?y", "?m"))

    def test_right_ones(self):
        for bounds in [(), (("?x", "=", "ann"),), (("?x", "!=", "?y"), ("?y", "=", "?x")), (("?n", "<=", "?m"),) * 4,
                       (("?n", ">=", -5), ("?m", "!=", "?n"), ("?m", "=", 10 ** 12), ("?n", "<=", "?n"))]:
            self.assertIs(are_bounds(bounds, self.SHAPE, *TABLES), True, bounds)
            self.assertIs(naive_bounds(bounds, self.SHAPE, TABLES), True)

    def test_wrong_ones(self):
        wrong = [
            (("?n", "<=", "?m"),) * 5, [("?n", "=", 1)], (["?n", "=", 1],), ("?n", "=", 1), (("?n", "="),),
            (("?n", "=", 1, 1),), (("?z", "=", "ann"),), (("?x", "=", "?z"),), (("?x", "<=", "ann"),),
            (("?x", ">=", "?y"),), (("?x", "=", 1),), (("?x", "=", "?n"),), (("?n", "=", "?x"),), (("?n", "=", "ann"),),
            (("?n", "<", 1),), (("?n", "=", True),), (("?n", "=", None),), (("n", "=", 1),), (("ann", "=", "?x"),),
            ((1, "<=", "?n"),), (("?n", None, 1),), (("?", "=", 1),), (("?x", "=", "?"),), (("?x", "=", ""),),
            (("?x", "=", "Ann"),), (("?n", "==", 1),), (("?n", "=", "1"),), ((("?n", "=", 1),),),
            (("t.a", "=", "ann"),),
            (("?n", "<=", "?m"), None), (("?n", 1, "<="),), (1, "<=", "?n")]
        for thing in [*wrong, *[value for value in any_values() if not isinstance(value, tuple) or value]]:
            self.assertIs(are_bounds(thing, self.SHAPE, *TABLES), False, thing)

    def test_any_value_at_any_place(self):
        bounds = (("?n", ">=", -5), ("?x", "!=", "?y"))
        for path in places_in(bounds):
            for value in any_values():
                thing = put_at(bounds, path, value)
                self.assertIs(are_bounds(thing, self.SHAPE, *TABLES), naive_bounds(thing, self.SHAPE, TABLES))

    def test_parameters_of_another_shape(self):
        bounds = (("?n", ">=", 0),)
        self.assertIs(are_bounds(bounds, ("insert", "t", ("?x", "?n")), *TABLES), True)
        self.assertIs(are_bounds(bounds, ("insert", "t", ("?n", "?x")), *TABLES), False)
        self.assertIs(are_bounds(bounds, ("insert", "t", ("?x", 1)), *TABLES), False)
        self.assertIs(are_bounds((), ("insert", "t", ("ann", 1)), *TABLES), True)
        self.assertIs(are_bounds(bounds, ("replace", "t", ("?x", 1), ("?x", "?n")), *TABLES), True)

    def test_drawn_ones_and_spoilt_ones(self):
        chance = random.Random(102)
        values = [*any_values(), "?x", "?n", "ann", 0, "<=", "=", "<", ("?n", "=", 0)]
        right = wrong = 0
        for _ in range(3000):
            tables = make_tables(chance)
            shape = make_shape(chance, tables)
            bounds = make_bounds(chance, shape)
            self.assertIs(are_bounds(bounds, shape, *tables), True)
            for _ in range(3):
                thing = spoilt(chance, bounds, values)
                expected = naive_bounds(thing, shape, tables)
                self.assertIs(are_bounds(thing, shape, *tables), expected, (thing, shape))
                right, wrong = right + expected, wrong + (not expected)
        self.assertGreater(right, 1000)
        self.assertGreater(wrong, 1500)

    def test_shapes_are_judged_first(self):
        for shape in [*any_values(), ("insert", "t", ("?x",)), ["insert", "t", ("?x", "?n")],
                      ("insert", "t", ("?n", "?n"))]:
            for thing in ((), None, (("?n", "=", 1),), [1]):
                self.assertRaises(InvalidShape, are_bounds, thing, shape, *TABLES)

    def test_nothing_is_changed(self):
        thing = [["?n", "=", 1]]
        self.assertIs(are_bounds(thing, self.SHAPE, *TABLES), False)
        self.assertTrue(exact(tuple(thing[0]), ("?n", "=", 1)))
