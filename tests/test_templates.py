"""Templates of tables with two name columns (points 13 and 19), above all rows with one name twice."""

import itertools
import random
import unittest

from tests.naive_trees import ONE, OTHER, NaiveTree
from whatturns.forms import Form
from whatturns.guards import Guard
from whatturns.questions import Select
from whatturns.stores import Store
from whatturns.tables import Table

NAMES = ("ann", "bob", "cat")               # the names in conditions, rows and templates
ALL_NAMES = (*NAMES, ONE, OTHER)
NUMBERS = tuple(range(-2, 4))               # conditions, rows and templates have those from -1 to 2
YES, NO = ("leaf", True), ("leaf", False)
TWO = ("a", "b")
FLAT, DEEP, DEEPEST = Table("t", TWO), Table("t", TWO, ("n",)), Table("t", TWO, ("n", "m"))
KEYED = (Table("t", TWO, (), ("a", "b")), Table("t", TWO, ("n",), ("b",)), Table("t", TWO, ("n", "m"), ("a", "n")))
NAME_PARTS = (("?x", "?y"), ("?y", "?x"), ("?x", "?x"), ("?x", "ann"), ("?x", "cat"), ("bob", "?y"), ("cat", "?y"),
              ("ann", "ann"), ("ann", "bob"), ("cat", "cat"))
NUMBER_PARTS = (
    ((),),
    (("?n",), (0,), (1,)),
    (("?n", "?m"), ("?m", "?n"), ("?n", "?n"), (0, "?m"), ("?n", 1), (0, 0), (1, -1)))


def barring(*conditions):
    return Select((("u", "t"),), ("u.a",), conditions)


# What bars in the rows of one name another thing than in the rows of two.
ANN_AT_B = barring(("u.b", "=", "ann"))
ANN_AT_A = barring(("u.a", "=", "ann"))
ALIKE_AND_LOW = barring(("u.a", "=", "u.b"), ("u.n", "<=", 0))
APART_AND_LOW = barring(("u.a", "!=", "u.b"), ("u.n", "<=", 0))
APART_AND_HIGH = barring(("u.a", "!=", "u.b"), ("u.m", ">=", 1))


def templates_of(table):
    """All templates with a parameter, of the parts above."""
    for names, numbers in itertools.product(NAME_PARTS, NUMBER_PARTS[len(table.numbers)]):
        template = names + numbers
        if any(str(part).startswith("?") for part in template):
            yield template


def parameters_of(template):
    """The parameters at names and those at numbers, each once."""
    numbers = [part for part in template[2:] if isinstance(part, str)]
    names = [part for part in template[:2] if part.startswith("?")]
    return list(dict.fromkeys(names)), list(dict.fromkeys(numbers))


def draw_condition(chance, table):
    """A condition on one use of the table: whether its names are the same, or on one column."""
    kind = chance.choice(("names", "name", "number") if table.numbers else ("names", "name"))
    if kind == "names":
        return ("u.a", chance.choice(("=", "!=")), "u.b")
    if kind == "name":
        return (chance.choice(("u.a", "u.b")), chance.choice(("=", "!=")), chance.choice(NAMES[:2]))
    return (f"u.{chance.choice(table.numbers)}", chance.choice(("=", "!=", "<=", ">=")), chance.randint(-1, 2))


def draw_constraint(chance, table):
    """A select of one use, or of two uses that have to do with one another."""
    conditions = [draw_condition(chance, table) for _ in range(chance.randint(1, 3))]
    if chance.random() < 0.7:
        return barring(*conditions)
    link = (chance.choice(("u.a", "u.b")), chance.choice(("=", "!=")), chance.choice(("w.a", "w.b")))
    return Select((("u", "t"), ("w", "t")), ("u.a",), (*conditions, link))


def draw_guard(chance, table):
    """A guard over a store of a few rows, with one to four constraints."""
    store = Store(table)
    for _ in range(chance.randint(0, 2)):
        row = tuple(chance.choice(NAMES) for _ in TWO) + tuple(chance.randint(-1, 2) for _ in table.numbers)
        store.do(("insert", "t", row))
    drawn = [draw_constraint(chance, table) for _ in range(40)]
    return Guard(store, *[question for question in drawn if not question.answer_in(store)][:chance.randint(1, 4)])


class Templates(unittest.TestCase):
    def check_guard(self, guard, table):
        """Compare the forms of all templates with what bars their rows; count those of a name twice alone."""
        found = {}

        def is_barred(row):
            if row not in found:
                found[row] = guard.barred_by(("insert", "t", row)) != ()
            return found[row]

        twice_alone = 0
        for template in templates_of(table):
            names, numbers = parameters_of(template)
            params = Table("params", tuple(name[1:] for name in names), tuple(number[1:] for number in numbers))
            form = guard.barred_template("t", template)

            def expected(values):
                put = dict(zip([*names, *numbers], values))
                return is_barred(tuple(put.get(part, part) for part in template))

            place = (template, form.tree, guard.snapshot().text())
            self.assertEqual(form.table, params, place)
            every = [ALL_NAMES] * len(names) + [NUMBERS] * len(numbers)
            for values in itertools.product(*every):
                self.assertIs(form(values), expected(values), (*place, values))
            naive = NaiveTree(params, expected, NAMES, NUMBERS)
            self.assertEqual(form.tree, naive.tree(), place)
            self.assertEqual(Form.read(params, form.tree), form, place)
            twice_alone += len(names) == 2 and naive.told_for_the_row_twice_alone() != []
        return twice_alone

    def test_drawn_guards(self):
        chance = random.Random(131)
        for table in (FLAT, DEEP, DEEPEST, *KEYED):
            twice_alone = 0
            for _ in range(60 if len(table.numbers) < 2 else 25):
                twice_alone += self.check_guard(draw_guard(chance, table), table)
            self.assertGreater(twice_alone, 20, table.columns)

    def test_what_bars_names_twice(self):
        for constraints in [(ANN_AT_B, APART_AND_LOW), (ANN_AT_A, APART_AND_LOW), (ANN_AT_B, ALIKE_AND_LOW),
                            (ANN_AT_A, ANN_AT_B, ALIKE_AND_LOW), (ALIKE_AND_LOW, APART_AND_LOW)]:
            for table in (DEEP, DEEPEST):
                self.check_guard(Guard(Store(table), *constraints), table)
        twice_alone = self.check_guard(Guard(Store(DEEPEST), ANN_AT_B, APART_AND_LOW, APART_AND_HIGH), DEEPEST)
        self.assertGreater(twice_alone, 3)

    def test_the_trees(self):
        """What the number leaves to the others is told at the first column, for the row of the name twice."""
        ann_twice = (("ann", ("names", (), None, YES)),)
        others = ("names", (), NO, YES)
        guard = Guard(Store(DEEP), ANN_AT_B, APART_AND_LOW)
        for template, tree in [
                (("?x", "?y", 0), ("names", ann_twice, None, others)),
                (("?y", "?x", 0), ("names", ann_twice, None, others)),
                (("?x", "?y", 1), ("names", (), None, ("names", (("ann", YES),), None, NO))),
                (("?x", "?x", 0), ("names", (("ann", YES),), None, NO)),
                (("?x", "ann", 0), ("names", (), None, YES)), (("ann", "?y", 0), ("names", (), None, YES)),
                (("?x", "bob", 0), ("names", (("bob", NO),), None, YES)),
                (("bob", "?y", 0), ("names", (("bob", NO),), None, YES))]:
            self.assertEqual(guard.barred_template("t", template).tree, tree, template)
        # The numbers are given one by one, or are one number: for each of them ann is told again.
        guard = Guard(Store(DEEPEST), ANN_AT_B, APART_AND_LOW, APART_AND_HIGH)
        for template in (("?x", "?y", 0, 0), ("?x", "?y", 7, 7), ("?x", "?y", 0, 7)):
            self.assertEqual(guard.barred_template("t", template).tree, ("names", ann_twice, None, others), template)
        yes, no = ("numbers", (), (YES,)), ("numbers", (), (NO,))
        told = (("ann", ("names", (), None, yes)),)
        for template in (("?x", "?y", "?n", "?n"), ("?x", "?y", 0, "?m"), ("?x", "?y", "?n", 1)):
            self.assertEqual(guard.barred_template("t", template).tree,
                             ("names", told, None, ("names", (), no, yes)), template)

    def test_the_form_of_the_whole_table_is_not_changed(self):
        guard = Guard(Store(DEEP), ANN_AT_B, APART_AND_LOW)
        before = guard.barred("t").tree
        low, high = ("numbers", (), (YES,)), ("numbers", (), (NO,))
        self.assertEqual(before, ("names", (), None, ("names", (("ann", low),), high, ("numbers", (0,), (YES, NO)))))
        for template in templates_of(DEEP):
            guard.barred_template("t", template)
        self.assertEqual(guard.barred("t").tree, before)
        self.assertEqual(guard.barred_template("t", ("?a", "?b", "?n")).tree, before)


if __name__ == "__main__":
    unittest.main()
