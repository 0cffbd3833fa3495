"""Integers, integer words, comparisons, and the equality of values of any kind."""

import unittest

from tests.helpers import any_values, deep_key, nested
from whatturns.errors import UnknownTable
from whatturns.values import compares, is_number, is_number_word, same


class Integers(unittest.TestCase):
    def test_a_bool_is_none(self):
        self.assertEqual([is_number(thing) for thing in (0, -5, 10 ** 39)], [True, True, True])
        self.assertEqual([is_number(thing) for thing in (True, False, "1", None, (1,), [1], {1: 1})], [False] * 7)

    def test_words(self):
        for word in ("0", "7", "10", "-1", "-120", "123456789012"):
            self.assertIs(is_number_word(word), True, word)
        for word in ("", "-", "-0", "00", "01", "-01", "+1", "--1", "1-", "1.0", " 1", "1 ", "a", "1a", "1_0", "1\n",
                     "\u0663", "\u00b2"):
            self.assertIs(is_number_word(word), False, word)


class Comparisons(unittest.TestCase):
    def test_numbers(self):
        for operator, expected in (("=", [0, 1, 0]), ("!=", [1, 0, 1]), ("<=", [1, 1, 0]), (">=", [0, 1, 1])):
            found = [compares(one, operator, 2) for one in (1, 2, 3)]
            self.assertEqual(found, [value == 1 for value in expected], operator)

    def test_names(self):
        self.assertEqual([compares("ann", "=", "ann"), compares("ann", "=", "bob")], [True, False])
        self.assertEqual([compares("ann", "!=", "ann"), compares("ann", "!=", "bob")], [False, True])


class Same(unittest.TestCase):
    def test_each_value_is_only_the_same_as_itself(self):
        ones, others = any_values(), any_values()
        for at, one in enumerate(ones):
            for place, other in enumerate(others):
                if isinstance(one, Exception):
                    continue
                self.assertEqual(same(one, other), at == place, (at, place))

    def test_bools_stand_at_the_same_places(self):
        pairs = [(1, True), (0, False), ((1,), (True,)), ([0], [False]), ({"a": 1}, {"a": True}),
                 ({1: "a"}, {True: "a"}), ({(0, 1): "a"}, {(0, True): "a"}), (((2, (1,)),), ((2, (True,)),))]
        for one, other in pairs:
            self.assertEqual(one, other)
            self.assertIs(same(one, other), False)
            self.assertIs(same(other, one), False)
            self.assertIs(same(one, one), True)
            self.assertIs(same(other, other), True)

    def test_shapes_differ(self):
        for one, other in [((1,), [1]), ((1,), (1, 2)), ((), None), ([], ()), ({}, []), ({"a": 1}, {"b": 1}),
                           ({"a": 1}, {"a": 1, "b": 1}), ("1", 1), ({"a": [1]}, {"a": [2]}), ((1, 2), (2, 1))]:
            self.assertIs(same(one, other), False)
            self.assertIs(same(other, one), False)

    def test_the_order_of_a_dict_does_not_count(self):
        self.assertIs(same({"a": 1, "b": True}, {"b": True, "a": 1}), True)
        self.assertIs(same({"a": 1, "b": True}, {"b": 1, "a": True}), False)

    def test_objects_as_keys(self):
        one, other = UnknownTable("t"), UnknownTable("t")
        self.assertIs(same({one: 1, (other, 1): 2}, {(other, 1): 2, one: 1}), True)
        self.assertIs(same({one: 1}, {other: 1}), False)
        self.assertIs(same({(one, 1): 1}, {(one, True): 1}), False)
        self.assertIs(same({one: 1}, {one: 1, other: 1}), False)
        self.assertIs(same({one: 1, other: 1}, {one: 1}), False)

    def test_deep_and_large(self):
        for kind in ("tuple", "list", "dict"):
            self.assertIs(same(nested(kind, 100), nested(kind, 100)), True)
            self.assertIs(same(nested(kind, 100), nested(kind, 99)), False)
        self.assertIs(same(deep_key(95), deep_key(95)), True)
        self.assertIs(same({at: at for at in range(9999)}, {9998 - at: 9998 - at for at in range(9999)}), True)
        self.assertIs(same([0] * 19999, [0] * 19998 + [False]), False)

    def test_arguments_stay(self):
        one, other = {"a": [1, (2,)]}, {"a": [1, (2,)]}
        same(one, other)
        self.assertEqual((one, other), ({"a": [1, (2,)]}, {"a": [1, (2,)]}))
