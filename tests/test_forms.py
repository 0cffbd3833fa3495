"""Forms (points 13 and 14)."""

import itertools
import random
import unittest

from tests.helpers import S, T, any_values, nested
from whatturns.errors import InvalidForm
from whatturns.forms import Form
from whatturns.tables import Table

NAMES = ("ann", "bob", "cat", "x", "y")     # forms are made of the first three alone
NUMBERS = range(-4, 7)
TWO = Table("t", ("a", "b"), ("p",))
FULL = Table("t", ("a", "b"), ("p", "q"))
TABLES = (T, TWO, S, FULL, Table("t", (), ("p", "q")), Table("t", (), ("p",)), Table("t", ("a",)))
LEAF = ("leaf", True)
NO_LEAF = ("leaf", False)


def all_rows(table):
    return list(itertools.product(*[NAMES] * len(table.names), *[NUMBERS] * len(table.numbers)))


def compare(chance, table):
    """A compared form, and the same with all of Python."""
    column = chance.choice(table.columns)
    at = table.columns.index(column)
    operator = chance.choice(("=", "!=") if column in table.names else ("=", "!=", "<=", ">="))
    value = chance.choice(NAMES[:3]) if column in table.names else chance.randint(-3, 5)
    if len(table.names) == 2 and column in table.names and chance.random() < 0.4:
        other = 1 - at
        return (Form.compare(table, column, operator, f".{table.names[other]}"),
                lambda row: (row[at] == row[other]) == (operator == "="))
    truth = {"=": lambda one: one == value, "!=": lambda one: one != value, "<=": lambda one: one <= value,
             ">=": lambda one: one >= value}[operator]
    return Form.compare(table, column, operator, value), lambda row: truth(row[at])


def make_form(chance, table, depth):
    """A form of bools, and the same with all of Python."""
    if depth == 0:
        if chance.random() < 0.1:
            leaf = chance.random() < 0.5
            return Form.constant(table, leaf), lambda row: leaf
        return compare(chance, table)
    one, first = make_form(chance, table, depth - 1)
    other, second = make_form(chance, table, chance.randint(0, depth - 1))
    return chance.choice([
        (one & other, lambda row: first(row) and second(row)), (one | other, lambda row: first(row) or second(row)),
        (one - other, lambda row: first(row) and not second(row)), (one.complement(), lambda row: not first(row)),
        (one.joined(lambda leaves: leaves[0] != leaves[1], other), lambda row: first(row) != second(row))])


def from_pieces(chance, form):
    """The form made again from its pieces, in any order."""
    pieces = list(form.pieces())
    chance.shuffle(pieces)
    leaves = form.leaves()
    found = Form.constant(form.table, 0)
    for conditions, leaf in pieces:
        there = Form.constant(form.table, True)
        for condition in chance.sample(conditions, len(conditions)):
            there = there & Form.compare(form.table, *condition)
        found = there.joined(lambda pair, leaf=leaf: leaves.index(leaf) if pair[0] else pair[1], found)
    return found.joined(lambda pair: leaves[pair[0]])


class Made(unittest.TestCase):
    def test_values_at_rows(self):
        chance = random.Random(1)
        for _ in range(800):
            table = chance.choice(TABLES)
            form, truth = make_form(chance, table, chance.randint(0, 4))
            rows = all_rows(table)
            for row in chance.sample(rows, min(60, len(rows))):
                self.assertIs(form(row), truth(row), (form.tree, row))

    def test_one_tree_for_each_function(self):
        chance = random.Random(2)
        seen = {}
        again = 0
        for _ in range(1500):
            table = chance.choice(TABLES[:3] + TABLES[5:])
            form, _ = make_form(chance, table, chance.randint(0, 3))
            function = (TABLES.index(table), tuple(form(row) for row in all_rows(table)))
            again += function in seen
            self.assertEqual(seen.setdefault(function, form.tree), form.tree)
        self.assertGreater(again, 500)

    def test_the_tree_is_read_and_made_again_from_its_pieces(self):
        chance = random.Random(3)
        for _ in range(250):
            table = chance.choice(TABLES)
            form, _ = make_form(chance, table, chance.randint(0, 4))
            other, _ = make_form(chance, table, 2)
            counted = form.joined(lambda leaves: 3 * leaves[0] + leaves[1], other)
            many = counted.joined(lambda leaves: tuple(range(-1, leaves[0])))
            for made in (form, counted, many):
                self.assertEqual(Form.read(table, made.tree), made)
                self.assertEqual(from_pieces(chance, made).tree, made.tree)

    def test_leaves_and_examples(self):
        chance = random.Random(4)
        for _ in range(300):
            table = chance.choice(TABLES)
            form, _ = make_form(chance, table, chance.randint(0, 4))
            leaves = {form(row) for row in all_rows(table)}
            self.assertEqual(form.leaves(), tuple(sorted(leaves)))
            for leaf in (False, True):
                row = form.example(leaf)
                self.assertEqual(row is None, leaf not in leaves)
                if row is not None:
                    self.assertTrue(table.is_row(row))
                    self.assertIs(form(row), leaf)

    def test_laws(self):
        chance = random.Random(5)
        for _ in range(200):
            table = chance.choice(TABLES)
            one, other, third = (make_form(chance, table, chance.randint(0, 3))[0] for _ in range(3))
            self.assertEqual(one & other, other & one)
            self.assertEqual(one | (other | third), (one | other) | third)
            self.assertEqual((one & other).complement(), one.complement() | other.complement())
            self.assertEqual(one - other, one & other.complement())
            self.assertEqual((one & other) | (one - other), one)
            self.assertEqual(one.joined(lambda leaves: leaves[0]), one)
            self.assertEqual(one - one, Form.constant(table, False))
            self.assertEqual(one | one.complement(), Form.constant(table, True))


class Joined(unittest.TestCase):
    def test_leaves_in_order(self):
        one, other = Form.compare(T, "p", ">=", 3), Form.compare(T, "a", "=", "ann")
        form = one.joined(lambda leaves: leaves, other, one)
        self.assertEqual(form(("bob", 4)), (True, False, True))
        self.assertEqual(one.joined(lambda leaves: 7).tree, Form.constant(T, 7).tree)
        self.assertEqual(one.joined(lambda leaves: int(leaves[0]))(("x", 3)), 1)

    def test_other_kinds_of_leaves(self):
        count = Form.compare(T, "p", ">=", 3).joined(lambda leaves: 2 if leaves[0] else -5)
        self.assertEqual((count.leaves(), count(("x", 3)), count.example(-5)[1] < 3), ((-5, 2), 2, True))
        numbers = count.joined(lambda leaves: () if leaves[0] == 2 else (1, 4), count)
        self.assertEqual((numbers.leaves(), numbers(("x", 3))), (((), (1, 4)), ()))
        self.assertEqual(numbers.joined(lambda leaves: len(leaves[0]) == 0), Form.compare(T, "p", ">=", 3))

    def test_a_name_that_is_to_be_told_at_the_first_column_only_together(self):
        # One form tells ann at the second column, the other one the same name there.
        one = Form.compare(S, "c", "=", "ann")
        other = Form.compare(S, "b", "=", ".c")
        both = one.joined(lambda leaves: 2 * leaves[0] + leaves[1], other)
        told = (("ann", ("names", (("ann", ("leaf", 3)),), None, ("leaf", 0))),)
        self.assertEqual(both.tree, ("names", told, None, ("names", (("ann", ("leaf", 2)),), ("leaf", 1), ("leaf", 0))))
        self.assertEqual(both.joined(lambda leaves: leaves[0] >= 2), one)
        self.assertEqual(both.joined(lambda leaves: leaves[0] in (1, 3)), other)

    def test_it_changes_nothing(self):
        one, other = Form.compare(T, "p", ">=", 3), Form.compare(T, "a", "=", "ann")
        before = one.tree, other.tree
        one.joined(lambda leaves: 1, other)
        list(one.pieces())
        self.assertEqual((one & other, one.tree, other.tree), (other & one, *before))


class Trees(unittest.TestCase):
    def test_compared(self):
        for arguments, tree in [
                ((T, "p", "<=", 4), ("names", (), None, ("numbers", (4,), (LEAF, NO_LEAF)))),
                ((T, "p", ">=", 4), ("names", (), None, ("numbers", (3,), (NO_LEAF, LEAF)))),
                ((T, "p", "=", 4), ("names", (), None, ("numbers", (3, 4), (NO_LEAF, LEAF, NO_LEAF)))),
                ((T, "p", "!=", 4), ("names", (), None, ("numbers", (3, 4), (LEAF, NO_LEAF, LEAF)))),
                ((S, "b", "=", "x"),
                 ("names", (("x", ("names", (), None, LEAF)),), None, ("names", (), None, NO_LEAF))),
                ((S, "c", "!=", "x"), ("names", (), None, ("names", (("x", NO_LEAF),), None, LEAF))),
                ((S, "b", "=", ".c"), ("names", (), None, ("names", (), LEAF, NO_LEAF))),
                ((S, "c", "=", ".b"), ("names", (), None, ("names", (), LEAF, NO_LEAF))),
                ((S, "c", "!=", ".b"), ("names", (), None, ("names", (), NO_LEAF, LEAF)))]:
            self.assertEqual(Form.compare(*arguments).tree, tree, arguments)
        self.assertEqual(Form.compare(value=4, operator="<=", column="p", table=T), Form.compare(T, "p", "<=", 4))

    def test_constants(self):
        for leaf in (True, False, 0, 1, -3, 10 ** 30, (), (5,), (-2, 0, 7)):
            form = Form.constant(T, leaf)
            self.assertEqual(form.tree, ("names", (), None, ("numbers", (), (("leaf", leaf),))))
            self.assertEqual((form.leaves(), form.table), ((leaf,), T))
            self.assertIs(type(form(("ann", 3))), type(leaf))
        self.assertEqual(Form.constant(table=S, leaf=1).tree, ("names", (), None, ("names", (), None, ("leaf", 1))))

    def test_the_same_name_and_told_names(self):
        alike = Form.compare(S, "b", "=", ".c")
        ann = Form.compare(S, "c", "=", "ann")
        ann_first = Form.compare(S, "b", "=", "ann")
        # With ann in both columns the one is true and the other is, too: nothing is to be told at the first column.
        self.assertEqual((alike | ann).tree, ("names", (), None, ("names", (("ann", LEAF),), LEAF, NO_LEAF)))
        # Here the row ("ann", "ann") is different from what the others say for it.
        told = (("ann", ("names", (), None, NO_LEAF)),)
        self.assertEqual((alike - ann).tree, ("names", told, None, ("names", (), LEAF, NO_LEAF)))
        told = (("ann", ("names", (), None, LEAF)),)
        self.assertEqual((alike | ann_first).tree, ("names", told, None, ("names", (), LEAF, NO_LEAF)))
        both = ann & ann_first
        told = (("ann", ("names", (("ann", LEAF),), None, NO_LEAF)),)
        self.assertEqual(both.tree, ("names", told, None, ("names", (), None, NO_LEAF)))
        self.assertEqual((alike & ann).tree, both.tree)
        self.assertEqual([form(("ann", "ann")) for form in (alike | ann, alike - ann, both)], [True, False, True])

    def test_told_names_ascend(self):
        form = Form.compare(T, "a", "=", "zed") | Form.compare(T, "a", "=", "abe") | Form.compare(T, "a", "=", "mia")
        self.assertEqual([name for name, _ in form.tree[1]], ["abe", "mia", "zed"])

    def test_neighbours_of_numbers_are_different(self):
        form = Form.compare(T, "p", "<=", 4) | Form.compare(T, "p", ">=", 5)
        self.assertEqual(form, Form.constant(T, True))
        gap = Form.compare(T, "p", "<=", 4) | Form.compare(T, "p", ">=", 6)
        self.assertEqual(gap, Form.compare(T, "p", "!=", 5))


class Pieces(unittest.TestCase):
    def test_numbers(self):
        form = Form.compare(T, "p", "=", 5)
        self.assertEqual(list(form.pieces()), [
            ((("p", "<=", 4),), False), ((("p", ">=", 5), ("p", "<=", 5)), True), ((("p", ">=", 6),), False)])

    def test_told_then_same_then_others(self):
        form = (Form.compare(S, "b", "=", ".c") | Form.compare(S, "c", "=", "bob")) - Form.compare(S, "b", "=", "ann")
        self.assertEqual(list(form.pieces()), [
            ((("b", "=", "ann"),), False),
            ((("b", "!=", "ann"), ("c", "=", "bob")), True),
            ((("b", "!=", "ann"), ("c", "!=", "bob"), ("c", "=", ".b")), True),
            ((("b", "!=", "ann"), ("c", "!=", "bob"), ("c", "!=", ".b")), False)])

    def test_nothing_is_asked(self):
        self.assertEqual(list(Form.constant(FULL, 7).pieces()), [((), 7)])

    def test_each_row_keeps_the_conditions_of_one_piece(self):
        chance = random.Random(6)
        for _ in range(150):
            table = chance.choice(TABLES)
            form, _ = make_form(chance, table, 3)
            pieces = [([Form.compare(table, *condition) for condition in conditions], leaf)
                      for conditions, leaf in form.pieces()]
            for row in chance.sample(all_rows(table), 10 if len(table.columns) > 1 else 4):
                found = [leaf for tests, leaf in pieces if all(test(row) for test in tests)]
                self.assertEqual(found, [form(row)])


class Examples(unittest.TestCase):
    def test_many_told_names(self):
        letters = "abcdefghijklmnopqrstuvwxyz"
        form = Form.constant(S, False)
        for name in [*letters, "aa", "ab", "ba"]:
            form = form | Form.compare(S, "b", "=", name) | Form.compare(S, "c", "=", name)
        row = form.example(False)
        self.assertTrue(S.is_row(row) and not form(row))
        alike = form | Form.compare(S, "b", "!=", ".c")
        row = alike.example(False)
        self.assertEqual(row[0], row[1])
        self.assertIs(alike(row), False)
        apart = form | Form.compare(S, "b", "=", ".c")
        self.assertIs(apart(apart.example(False)), False)

    def test_leaves_of_other_kinds(self):
        form = Form.compare(T, "p", ">=", 4)
        for thing in any_values():
            if not isinstance(thing, bool):
                self.assertIsNone(form.example(thing))
        self.assertIsNone(Form.constant(T, 1).example(True))
        self.assertIsNone(Form.constant(T, (1,)).example((True,)))
        self.assertIsNone(Form.constant(T, (1,)).example([1]))
        self.assertTrue(T.is_row(Form.constant(T, (1,)).example(leaf=(1,))))


class Equality(unittest.TestCase):
    def test_equal_forms(self):
        self.assertEqual(Form.constant(T, 1), Form.constant(Table("t", ("a",), ("p",)), 1))
        self.assertNotEqual(Form.constant(T, 1), Form.constant(T, True))
        self.assertNotEqual(Form.constant(T, 0), Form.constant(T, False))
        self.assertNotEqual(Form.constant(T, 1), Form.constant(T, 2))
        self.assertNotEqual(Form.constant(T, ()), Form.constant(T, False))
        self.assertNotEqual(Form.constant(T, True), Form.constant(Table("u", ("a",), ("p",)), True))
        bools = Form.compare(T, "p", "<=", 4)
        self.assertNotEqual(bools, bools.joined(lambda leaves: int(leaves[0])))
        for thing in [*any_values(), bools.tree]:
            self.assertFalse(bools == thing)
            self.assertTrue(bools != thing)


class Errors(unittest.TestCase):
    def test_constants(self):
        for leaf in [thing for thing in any_values() if not isinstance(thing, int)] + [
                (1, 1), (2, 1), (1, True), (True,), [1], ("a",), ((1,),), 1.5]:
            if leaf != ():
                self.assertRaises(InvalidForm, Form.constant, T, leaf)

    def test_comparisons(self):
        for column, operator, value in [
                ("z", "=", 1), ("p", "<", 1), ("p", "=", True), ("p", "=", "ann"), ("p", "=", ".a"), ("p", "=", None),
                ("a", "<=", "ann"), ("a", ">=", "ann"), ("a", "=", 1), ("a", "=", "Ann"), ("a", "=", ".p"),
                ("a", "=", ".a"), ("a", "=", "p."), (".a", "=", "ann"), ("", "=", 1)]:
            self.assertRaises(InvalidForm, Form.compare, T, column, operator, value)
        for column, operator, value in [("b", "=", ".b"), ("c", "=", ".c"), ("b", "<=", ".c"), ("b", "=", "c."),
                                        ("b", "=", "."), ("b", "=", ".")]:
            self.assertRaises(InvalidForm, Form.compare, S, column, operator, value)
        for thing in any_values():
            self.assertRaises(InvalidForm, Form.compare, T, thing, "=", 1)
            if thing != "=":
                self.assertRaises(InvalidForm, Form.compare, T, "p", thing, 1)
            if isinstance(thing, bool) or not isinstance(thing, int):
                self.assertRaises(InvalidForm, Form.compare, T, "p", "=", thing)

    def test_operators(self):
        bools = Form.compare(T, "p", ">=", 4)
        for other in [Form.constant(T, 1), Form.constant(T, ()), Form.constant(S, True),
                      Form.constant(Table("t", ("a",), ("p",), ("a",)), True), *any_values(), bools.tree]:
            for operation in (lambda: bools & other, lambda: bools | other, lambda: bools - other):
                self.assertRaises(InvalidForm, operation)
        for operation in (lambda: Form.constant(T, 1) & bools, lambda: Form.constant(T, 1) | bools,
                          lambda: Form.constant(T, 1) - bools):
            self.assertRaises(InvalidForm, operation)


def changed(chance, value):
    """A value of any kind that is the given tuple changed at one place."""
    if isinstance(value, tuple) and value and chance.random() < 0.7:
        at = chance.randrange(len(value))
        return value[:at] + (changed(chance, value[at]),) + value[at + 1:]
    if isinstance(value, tuple):
        return chance.choice([value[::-1], value + value[-1:], value[:-1], value + (None,), list(value), value[1:]])
    return chance.choice([None, True, False, 0, 1, 2, -1, "ann", "cat", "zed", "leaf", "names", "numbers", (), (1,)])


class Reading(unittest.TestCase):
    def test_values_that_are_no_trees(self):
        for thing in any_values():
            for table in TABLES:
                self.assertRaises(InvalidForm, Form.read, table, thing)

    def test_trees_with_one_fault(self):
        flat, other = ("numbers", (), (LEAF,)), ("numbers", (), (NO_LEAF,))
        good = ("names", (("ann", other),), None, flat)
        self.assertEqual(Form.read(T, good), Form.compare(T, "a", "!=", "ann"))
        for tree in [
                list(good), good[:3], good + (None,), ("numbers",) + good[1:], ("names", (("ann", flat),), None, flat),
                ("names", (("ann", other), ("ann", other)), None, flat),
                ("names", (("b", other), ("a", other)), None, flat),
                ("names", [("ann", other)], None, flat), ("names", (["ann", other],), None, flat),
                ("names", (("Ann", other),), None, flat), ("names", ((1, other),), None, flat),
                ("names", (("ann", other, other),), None, flat), ("names", (), flat, other),
                ("names", (), other, other),
                ("names", (), False, flat), ("names", None, None, flat), ("names", (), None, LEAF),
                ("names", (), None, ("names", (), None, LEAF)), flat, LEAF,
                ("names", (), None, ("numbers", (4,), (LEAF, LEAF))), ("names", (), None, ("numbers", (4,), (LEAF,))),
                ("names", (), None, ("numbers", (), (LEAF, NO_LEAF))), ("names", (), None, ("numbers", (), ())),
                ("names", (), None, ("numbers", (4, 4), (LEAF, NO_LEAF, LEAF))),
                ("names", (), None, ("numbers", (5, 4), (LEAF, NO_LEAF, LEAF))),
                ("names", (), None, ("numbers", (True,), (LEAF, NO_LEAF))),
                ("names", (), None, ("numbers", ("a",), (LEAF, NO_LEAF))),
                ("names", (), None, ("numbers", [4], (LEAF, NO_LEAF))),
                ("names", (), None, ("numbers", (4,), [LEAF, NO_LEAF])),
                ("names", (), None, ("numbers", (4,), (LEAF, ("leaf", 0)))),
                ("names", (), None, ("numbers", (4,), (LEAF, ("leaf", 2)))),
                ("names", (), None, ("numbers", (4,), (("leaf", 1), ("leaf", (1,))))),
                ("names", (), None, ("numbers", (), (("leaf", None),))),
                ("names", (), None, ("numbers", (), (("leaf",),))),
                ("names", (), None, ("numbers", (), (("leaf", (2, 1)),))),
                ("names", (), None, ("numbers", (), (True,))),
                ("names", (("ann", ("numbers", (), (("leaf", 1),))),), None, flat)]:
            self.assertRaises(InvalidForm, Form.read, T, tree)

    def test_trees_of_two_name_columns(self):
        alike = Form.compare(S, "b", "=", ".c")
        self.assertEqual(Form.read(S, ("names", (), None, ("names", (), LEAF, NO_LEAF))), alike)
        for tree in [
                ("names", (), None, ("names", (), LEAF, LEAF)), ("names", (), LEAF, ("names", (), None, LEAF)),
                ("names", (), ("names", (), None, NO_LEAF), ("names", (), None, LEAF)),
                ("names", (("ann", ("names", (), LEAF, NO_LEAF)),), None, ("names", (), None, LEAF)),
                # Read with ann in the first column, the others say the very same.
                ("names", (("ann", ("names", (("ann", LEAF),), None, NO_LEAF)),), None, ("names", (), LEAF, NO_LEAF)),
                ("names", (("ann", ("names", (("ann", LEAF),), None, NO_LEAF)),), None,
                 ("names", (("ann", LEAF),), None, NO_LEAF)),
                ("names", (), None, ("names", (("ann", NO_LEAF),), LEAF, NO_LEAF))]:
            self.assertRaises(InvalidForm, Form.read, S, tree)
        for tree in [
                ("names", (("ann", ("names", (), None, NO_LEAF)),), None, ("names", (), LEAF, NO_LEAF)),
                ("names", (("ann", ("names", (("bob", LEAF),), None, NO_LEAF)),), None, ("names", (), LEAF, NO_LEAF)),
                ("names", (), None, ("names", (("ann", LEAF),), LEAF, NO_LEAF)),
                ("names", (("ann", ("names", (), None, NO_LEAF)),), None, ("names", (("ann", LEAF),), LEAF, NO_LEAF))]:
            self.assertEqual(Form.read(table=S, tree=tree).tree, tree)

    def test_changed_trees(self):
        # What is read is made again, from its pieces, with the very same tree; so nothing else is taken for a tree.
        chance = random.Random(7)
        taken = 0
        for _ in range(4000):
            table = chance.choice(TABLES)
            form, _ = make_form(chance, table, chance.randint(0, 3))
            tree = changed(chance, form.tree)
            try:
                found = Form.read(table, tree)
            except InvalidForm:
                continue
            taken += 1
            self.assertEqual(from_pieces(chance, found), found)
            self.assertEqual(found.tree, tree)
        self.assertGreater(taken, 100)

    def test_deep_values(self):
        for kind in ("tuple", "list", "dict"):
            self.assertRaises(InvalidForm, Form.read, T, ("names", (), None, nested(kind, 98)))
            self.assertRaises(InvalidForm, Form.read, T, ("names", nested(kind, 98), None, ("numbers", (), (LEAF,))))
