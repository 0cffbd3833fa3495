"""Guards (point 19): what constraints bar, at single rows and for templates."""

import random
import unittest

from tests.asking import NEW_NAMES, sample_rows
from tests.helpers import FREE, RICH, S, T, any_values, example_store, store_with
from tests.making import NAMES, make_question, make_store, make_tables
from tests.naive import naive_answer
from tests.test_effects import make_change
from whatturns.errors import Barred, Broken, InvalidChange, InvalidQuestion, InvalidShape, UnknownTable
from whatturns.forms import Form
from whatturns.guards import Guard
from whatturns.questions import First, Groups, Question, Select, Union
from whatturns.stores import Store
from whatturns.tables import Table

ONE = (("u", "t"),)
# Two rows of one name with different numbers.
TWICE = Select((("u", "t"), ("w", "t")), ("u.a",), (("u.a", "=", "w.a"), ("u.p", "!=", "w.p")))
PAIR = Table("m", ("x", "y"), ("p", "q"))


def draw_constraints(chance, tables, store, count):
    """So many questions without an answer, as different as can be had."""
    found = []
    for _ in range(60):
        question = make_question(chance, tables)
        if len(found) < count and not question.answer_in(store):
            found.append(question)
    return found


def naive_barred(constraints, store, change):
    """(possible, the numbers of the constraints that would have an answer)."""
    after = store.copy()
    if not after.do(change)[0]:
        return False, ()
    return True, tuple(number for number, question in enumerate(constraints) if naive_answer(question, after))


def make_template(chance, table, store):
    """A template of the table, mostly with parameters, of values that are there or not."""
    row = list(chance.choice(sample_rows(chance, table, store, 3)))
    split = len(table.names)
    for place in range(len(row)):
        if chance.random() < 0.7:
            row[place] = chance.choice(("?x", "?y") if place < split else ("?n", "?m"))
    return tuple(row)


def naive_params(template, table):
    """The table of the parameters of a template."""
    split = len(table.names)
    kinds = []
    for part in (template[:split], template[split:]):
        found = [value[1:] for value in part if isinstance(value, str) and value.startswith("?")]
        kinds.append(tuple(dict.fromkeys(found)))
    return Table("params", *kinds)


class Drawn(unittest.TestCase):
    def test_changes_beside_asking_again(self):
        chance = random.Random(61)
        barred, seen = 0, set()
        for _ in range(150):
            tables = make_tables(chance)
            store = make_store(chance, tables, 3)
            constraints = draw_constraints(chance, tables, store, chance.randint(0, 6))
            guard = Guard(store, *constraints)
            for _ in range(25):
                change = make_change(chance, tables, store)
                if not store.is_change(change):
                    continue
                possible, numbers = naive_barred(constraints, store, change)
                self.assertEqual(guard.barred_by(change), numbers)
                if numbers:
                    barred += 1
                    seen |= {(change[0], type(constraints[number]).__name__) for number in numbers}
                    with self.assertRaises(Barred) as caught:
                        guard.do(change)
                    self.assertEqual(caught.exception.numbers, numbers)
                else:
                    self.assertIs(guard.do(change), possible)
                    store.do(change)
                self.assertEqual(guard.snapshot(), store)
        self.assertGreater(barred, 250)
        self.assertLessEqual({(kind, word) for kind in ("insert", "replace") for word in
                              ("Select", "Union", "First", "Groups")} | {("delete", "Select")}, seen)

    def test_barred_inserts_beside_asking_again(self):
        chance = random.Random(62)
        leaves = set()
        for _ in range(150):
            tables = make_tables(chance)
            store = make_store(chance, tables, 3)
            constraints = draw_constraints(chance, tables, store, chance.randint(1, 4))
            guard = Guard(store, *constraints)
            for table in tables:
                form = guard.barred(table.name)
                self.assertEqual(Form.read(table, form.tree), form)
                leaves.add(form.leaves())
                for row in sample_rows(chance, table, store, 15):
                    expected = bool(naive_barred(constraints, store, ("insert", table.name, row))[1])
                    self.assertIs(form(row), expected, (table.name, row, store.text()))
        self.assertEqual(leaves, {(False,), (False, True), (True,)})

    def test_templates_beside_the_inserts_of_their_rows(self):
        chance = random.Random(63)
        shapes = set()
        for _ in range(150):
            tables = make_tables(chance)
            store = make_store(chance, tables, 3)
            guard = Guard(store, *draw_constraints(chance, tables, store, chance.randint(1, 3)))
            for table in tables:
                for _ in range(4):
                    template = make_template(chance, table, store)
                    params = naive_params(template, table) if any("?" in str(part) for part in template) else None
                    if params is None:
                        self.assertRaises(InvalidShape, guard.barred_template, table.name, template)
                        continue
                    form = guard.barred_template(table.name, template)
                    self.assertEqual(form.table, params)
                    self.assertEqual(Form.read(params, form.tree), form)
                    shapes.add((len(table.names), len(table.numbers), len(params.names), len(params.numbers)))
                    for row in sample_params(chance, params, store):
                        values = dict(zip(["?" + column for column in params.columns], row))
                        put = tuple(values.get(value, value) for value in template)
                        expected = guard.barred_by(("insert", table.name, put)) != ()
                        self.assertIs(form(row), expected, (template, row, store.text()))
        self.assertLessEqual({(2, 2, 2, 2), (2, 2, 1, 1), (2, 2, 0, 1), (2, 2, 2, 1), (2, 0, 1, 0)}, shapes)


def sample_params(chance, params, store):
    names = [*NAMES, *NEW_NAMES] + [value for _, row in store.walk() for value in row if isinstance(value, str)]
    for _ in range(12):
        name = chance.choice(names)
        yield tuple([chance.choice((name, chance.choice(names))) for _ in params.names]
                    + [chance.randint(-3, 4) for _ in params.numbers])


class Guards(unittest.TestCase):
    def test_the_numbers(self):
        guard = Guard(example_store(), TWICE, Select(ONE, ("u.a",), (("u.p", ">=", 9),)))
        self.assertEqual(guard.demand(Select(ONE, ("u.a",), (("u.a", "=", "zoe"),))), 2)
        self.assertEqual(guard.demand(question=Groups(ONE, having=(("count", ">=", 3),))), 3)
        self.assertEqual(guard.barred_by(change=("insert", "t", ("ann", 9))), (0, 1, 3))
        self.assertEqual(guard.barred_by(("insert", "t", ("zoe", 1))), (2, 3))
        self.assertEqual(guard.barred_by(("replace", "t", ("ann", 5), ("zoe", 9))), (1, 2))
        self.assertEqual(guard.barred_by(("replace", "t", ("ann", 5), ("ann", 6))), ())

    def test_a_guard_without_constraints(self):
        guard = Guard(store=example_store())
        self.assertEqual(guard.barred("t"), Form.constant(T, False))
        self.assertEqual(guard.barred_by(("insert", "t", ("zoe", 9))), ())
        self.assertIs(guard.do(change=("insert", "t", ("zoe", 9))), True)
        self.assertIs(guard.do(("insert", "t", ("zoe", 9))), False)
        self.assertEqual(guard.demand(TWICE), 0)

    def test_what_is_not_possible_is_not_barred(self):
        store = store_with(T, S, s=[("ann", "cat")])
        guard = Guard(store, Select((("w", "s"),), ("w.b",), (("w.c", "=", "dog"),)))
        self.assertEqual(guard.barred_by(("insert", "s", ("ann", "dog"))), ())
        self.assertIs(guard.do(("insert", "s", ("ann", "dog"))), False)
        self.assertIs(guard.do(("delete", "s", ("bob", "dog"))), False)
        self.assertEqual(guard.barred("s")(("ann", "dog")), False)
        self.assertEqual(guard.barred("s")(("bob", "dog")), True)
        self.assertEqual(guard.barred_by(("replace", "s", ("ann", "cat"), ("ann", "dog"))), (0,))

    def test_deletes(self):
        # Each name of t has a row of s.
        orphans = Select(ONE, ("u.a",), (), (((("w", "s"),), (("w.b", "=", "u.a"),)),))
        guard = Guard(store_with(T, S, t=[("ann", 5)], s=[("ann", "cat")]), orphans)
        with self.assertRaises(Barred) as caught:
            guard.do(("delete", "s", ("ann", "cat")))
        self.assertEqual(caught.exception.numbers, (0,))
        self.assertIs(guard.do(("delete", "t", ("ann", 5))), True)
        self.assertIs(guard.do(("delete", "s", ("ann", "cat"))), True)

    def test_the_forms_are_those_of_now(self):
        guard = Guard(example_store(), TWICE)
        form = guard.barred("t")
        self.assertEqual([form(("ann", 4)), form(("ann", 5)), form(("zoe", 4))], [True, False, False])
        guard.do(("delete", "t", ("ann", 5)))
        self.assertEqual([form(("ann", 4)), guard.barred(table="t")(("ann", 4))], [True, False])
        guard.demand(Select(ONE, ("u.a",), (("u.p", "=", 4),)))
        self.assertEqual(guard.barred("t")(("ann", 4)), True)

    def test_nothing_is_shared(self):
        store, question = example_store(), Select(ONE, ("u.a",), (("u.p", ">=", 9),))
        guard = Guard(store, question)
        question.where = (("u.p", ">=", 8),)
        store.do(("insert", "t", ("zoe", 9)))
        self.assertEqual(guard.snapshot(), example_store())
        guard.snapshot().do(("delete", "t", ("ann", 5)))
        self.assertIs(guard.do(("insert", "t", ("cat", 8))), True)
        self.assertEqual((len(guard.snapshot()), len(store)), (4, 4))
        other = Select(ONE, ("u.a",), (("u.p", "<=", 0),))
        guard.demand(other)
        other.where = ()
        self.assertEqual(guard.barred_by(("insert", "t", ("dog", 1))), ())

    def test_asking_makes_nothing(self):
        guard = Guard(example_store(), TWICE)
        for _ in range(2):
            self.assertEqual(guard.barred_by(("insert", "t", ("ann", 9))), (0,))
            self.assertEqual(guard.barred_by(("insert", "t", ("zoe", 9))), ())
            self.assertEqual(guard.barred("t")(("zoe", 9)), False)
        self.assertEqual(guard.snapshot(), example_store())


class Templates(unittest.TestCase):
    def test_the_table_of_the_parameters(self):
        guard = Guard(Store(PAIR))
        for template, names, numbers in [
                (("?b", "?a", "?d", "?c"), ("b", "a"), ("d", "c")), (("?b", "?b", "?c", "?c"), ("b",), ("c",)),
                (("x", "?long", 1, "?letters"), ("long",), ("letters",)), (("?x", "x", 1, 2), ("x",), ()),
                (("x", "y", 0, "?abcdefgh"), (), ("abcdefgh",))]:
            self.assertEqual(guard.barred_template("m", template),
                             Form.constant(Table("params", names, numbers), False))

    def test_one_parameter_at_two_columns(self):
        same = Select((("u", "m"),), ("u.x",), (("u.x", "=", "u.y"), ("u.p", "<=", 3)))
        guard = Guard(Store(PAIR), same, Select((("u", "m"),), ("u.x",), (("u.q", ">=", 6),)))
        form = guard.barred_template(table="m", template=("?n", "?n", "?k", "?k"))
        self.assertEqual(form.tree, ("names", (), None, (
            "numbers", (3, 5), (("leaf", True), ("leaf", False), ("leaf", True)))))
        form = guard.barred_template("m", ("?n", "?o", "?k", 5))
        self.assertEqual(form.tree, ("names", (), None, (
            "names", (), ("numbers", (3,), (("leaf", True), ("leaf", False))), ("numbers", (), (("leaf", False),)))))
        form = guard.barred_template("m", ("?n", "ann", 0, 0))
        self.assertEqual(form.tree, ("names", (("ann", ("leaf", True)),), None, ("leaf", False)))
        form = guard.barred_template("m", ("ann", "?n", 0, 0))
        self.assertEqual(form.tree, ("names", (("ann", ("leaf", True)),), None, ("leaf", False)))

    def test_wrong_ones(self):
        guard = Guard(Store(PAIR, T))
        wrong = [("x", "y", 1, 2), ("?a", "y", "?a", 2), ("?a", "y", 1), ("?a", "y", 1, 2, 3), ["?a", "y", 1, 2],
                 ("?a", "Y", 1, 2), ("?a", 1, 1, 2), ("?a", "y", "z", 2), ("?a", "y", True, 2), ("?a", "y", None, 2),
                 ("?", "y", 1, 2), ("??", "y", 1, 2), ("?A", "y", 1, 2), ("?abcdefghi", "y", 1, 2), ("? a", "y", 1, 2),
                 ("?a ", "y", 1, 2), ("a?", "y", 1, 2), ("?a", "?b", "?c", "?b"), ("?a", ("y",), 1, 2),
                 ("?a1", "y", 1, 2),
                 ("x", "y", "?n", "?x?"), ("x", "y", "?n", ""), ("?a", "y", 1, [2]), ("?a\n", "y", 1, 2)]
        for thing in [*wrong, *any_values(), *[("?a", value, 1, 2) for value in any_values()
                                               if value not in ("u", "t", "count")]]:
            self.assertRaises(InvalidShape, guard.barred_template, "m", thing)
        for value in any_values():
            if type(value) is not int:
                self.assertRaises(InvalidShape, guard.barred_template, "m", ("?a", "y", value, 2))
        self.assertRaises(InvalidShape, guard.barred_template, "t", ("?a", "y", 1, 2))
        self.assertEqual(guard.barred_template("m", ("?a", "y", 1, 2)).leaves(), (False,))

    def test_the_table_is_judged_first(self):
        guard = Guard(example_store())
        for thing in any_values():
            if thing not in ("t", "s"):
                for method in (lambda: guard.barred(thing), lambda: guard.barred_template(thing, None)):
                    with self.assertRaises(UnknownTable) as caught:
                        method()
                    self.assertIs(caught.exception.name, thing)


class Errors(unittest.TestCase):
    def test_broken(self):
        none = Select(ONE, ("u.a",), (("u.p", ">=", 99),))
        for questions, number in [((RICH,), 0), ((none, none, FREE, RICH), 2), ((TWICE, Groups(ONE)), 1),
                                  ((Union(none, RICH), RICH), 0), ((First(Select(ONE, ("u.p",)), "u.p", 1),), 0)]:
            with self.assertRaises(Broken) as caught:
                Guard(example_store(), *questions)
            self.assertEqual(caught.exception.number, number)
        guard = Guard(example_store(), none, TWICE)
        for question in (RICH, FREE):
            with self.assertRaises(Broken) as caught:
                guard.demand(question)
            self.assertEqual(caught.exception.number, 2)
        self.assertEqual(guard.barred_by(("insert", "t", ("ann", 100))), (0, 1))
        self.assertEqual(guard.demand(none), 2)

    def test_questions_are_judged_first(self):
        guard = Guard(example_store())
        for thing in [*any_values(), Select(ONE, ("u.z",)), Select((("u", "x"),), ("u.a",))]:
            if not (isinstance(thing, Question) and thing.fits(T, S)):
                self.assertRaises(InvalidQuestion, guard.demand, thing)
                self.assertRaises(InvalidQuestion, Guard, example_store(), thing)
                self.assertRaises(InvalidQuestion, Guard, example_store(), RICH, thing)
        self.assertEqual(guard.demand(TWICE), 0)

    def test_changes(self):
        guard = Guard(example_store(), TWICE)
        for thing in [*any_values(), ("insert", "t", ("ann", True)), ("insert", "x", ("ann", 1)), ("delete", "t")]:
            for method in (guard.do, guard.barred_by):
                with self.assertRaises(InvalidChange) as caught:
                    method(thing)
                self.assertIs(caught.exception.change, thing)
        self.assertEqual(guard.snapshot(), example_store())

    def test_what_is_barred_is_not_made(self):
        guard = Guard(example_store(), TWICE, Groups(ONE, having=(("count", ">=", 3),)))
        with self.assertRaises(Barred) as caught:
            guard.do(("insert", "t", ("ann", 4)))
        self.assertEqual(caught.exception.numbers, (0, 1))
        self.assertEqual(guard.snapshot(), example_store())
        self.assertIs(guard.do(("delete", "t", ("bob", 3))), True)
        self.assertEqual(guard.barred_by(("insert", "t", ("ann", 4))), (0,))
