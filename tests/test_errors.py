"""The errors: their classes, their attributes, and how they are caught."""

import unittest

from tests.helpers import any_values
from whatturns import errors
from whatturns.errors import (
    Barred, Broken, Full, InvalidChange, InvalidCommand, InvalidForm, InvalidQuestion, InvalidShape, InvalidStore,
    InvalidTable, InvalidText, NameTaken, NoOrder, TurnError, Unknown, UnknownNumber, UnknownReplica, UnknownRow,
    UnknownTable)

PLAIN = [InvalidTable, InvalidStore, InvalidQuestion, InvalidForm, InvalidText, InvalidCommand, InvalidShape, Full]
WITH_VALUE = [(InvalidChange, "change"), (NameTaken, "name"), (Broken, "number"), (Barred, "numbers"),
              (NoOrder, "tree")]
UNKNOWN = [(UnknownTable, "name"), (UnknownRow, "row"), (UnknownNumber, "number"), (UnknownReplica, "name")]
TURN = PLAIN + [error for error, _ in WITH_VALUE]


class Classes(unittest.TestCase):
    def test_directly_below_their_base(self):
        self.assertEqual(TurnError.__bases__, (ValueError,))
        self.assertEqual(Unknown.__bases__, (KeyError,))
        for error in TURN:
            self.assertEqual(error.__bases__, (TurnError,), error)
        for error, _ in UNKNOWN:
            self.assertEqual(error.__bases__, (Unknown,), error)

    def test_of_no_other_class(self):
        made = [error() for error in PLAIN] + [error(1) for error, _ in WITH_VALUE + UNKNOWN]
        for one in made:
            self.assertEqual(isinstance(one, TurnError), isinstance(one, ValueError), one)
            self.assertEqual(isinstance(one, Unknown), isinstance(one, KeyError), one)
            self.assertNotEqual(isinstance(one, TurnError), isinstance(one, Unknown), one)
            for other in made:
                self.assertEqual(isinstance(one, type(other)), one is other)

    def test_defined_in_their_file(self):
        for error in [TurnError, Unknown, *TURN, *[error for error, _ in UNKNOWN]]:
            self.assertEqual(error.__module__, errors.__name__)


class Attributes(unittest.TestCase):
    def test_by_position_and_by_name(self):
        for error, attribute in WITH_VALUE + UNKNOWN:
            for value in any_values():
                for one in (error(value), error(**{attribute: value})):
                    self.assertIs(getattr(one, attribute), value)

    def test_bools_and_nested_values_stay(self):
        for error, attribute in WITH_VALUE + UNKNOWN:
            self.assertIs(getattr(error(True), attribute), True)
            self.assertIsInstance(getattr(error(1), attribute), int)
            self.assertNotIsInstance(getattr(error(1), attribute), bool)
            value = ((0, (False, [1, {"a": (True,)}])), None)
            self.assertEqual(repr(getattr(error(value), attribute)), repr(value))

    def test_the_value_is_needed(self):
        for error, _ in WITH_VALUE + UNKNOWN:
            with self.assertRaises(TypeError):
                error()


class Caught(unittest.TestCase):
    def catch(self, caught, error, *given):
        with self.assertRaises(caught) as context:
            raise error(*given)
        return context.exception

    def test_plain_ones(self):
        for error in PLAIN:
            for caught in (error, TurnError, ValueError):
                self.assertIs(type(self.catch(caught, error)), error)

    def test_ones_with_a_value(self):
        for error, attribute in WITH_VALUE:
            for caught in (error, TurnError, ValueError):
                self.assertEqual(getattr(self.catch(caught, error, (1, 2)), attribute), (1, 2))

    def test_unknown_ones(self):
        for error, attribute in UNKNOWN:
            for caught in (error, Unknown, KeyError, LookupError):
                self.assertEqual(getattr(self.catch(caught, error, ["x"]), attribute), ["x"])

    def test_bases(self):
        self.assertIs(type(self.catch(ValueError, TurnError)), TurnError)
        self.assertIs(type(self.catch(KeyError, Unknown)), Unknown)

    def test_they_have_words(self):
        for error, _ in WITH_VALUE + UNKNOWN:
            self.assertIsInstance(str(error(5)), str)
            self.assertIsInstance(repr(error(5)), str)
