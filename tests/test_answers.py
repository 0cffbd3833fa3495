"""Answers and matches of questions (points 8 to 11)."""

import random
import unittest

from tests.helpers import FREE, RICH, S, T, example_store, store_with
from tests.making import make_question, make_store, make_tables
from tests.naive import naive_answer, naive_matches
from whatturns.errors import InvalidQuestion
from whatturns.questions import First, Groups, Select, Union
from whatturns.stores import Store
from whatturns.tables import Table

R = Table("r", ("x", "y"), ("m", "n"))
ONE = (("u", "t"),)
TWO = (("u", "t"), ("w", "t"))


def people():
    return store_with(T, S, t=[("ann", 5), ("bob", 3), ("bob", 5), ("cat", 0)], s=[("ann", "bob"), ("dog", "dog")])


class Selects(unittest.TestCase):
    def test_each_operator_with_a_value(self):
        for condition, expected in [
                (("u.p", "=", 3), [("bob", 3)]), (("u.p", "!=", 5), [("bob", 3), ("cat", 0)]),
                (("u.p", "<=", 3), [("bob", 3), ("cat", 0)]), (("u.p", ">=", 3), [("ann", 5), ("bob", 3), ("bob", 5)]),
                (("u.a", "=", "bob"), [("bob", 3), ("bob", 5)]), (("u.a", "!=", "bob"), [("ann", 5), ("cat", 0)])]:
            select = Select(ONE, ("u.a", "u.p"), (condition,))
            self.assertEqual(select.answer_in(people()), tuple(expected), condition)
            self.assertEqual(select.matches_in(people()), tuple((row,) for row in expected), condition)

    def test_each_operator_between_columns(self):
        for operator, expected in [("=", 6), ("!=", 10), ("<=", 11), (">=", 11)]:
            select = Select(TWO, ("u.a",), (("u.p", operator, "w.p"),))
            self.assertEqual(len(select.matches_in(people())), expected, operator)
        for operator, expected in [("=", 6), ("!=", 10)]:
            select = Select(TWO, ("u.a",), (("u.a", operator, "w.a"),))
            self.assertEqual(len(select.matches_in(people())), expected, operator)

    def test_a_column_with_itself(self):
        for operator, expected in [("=", 4), ("!=", 0), ("<=", 4), (">=", 4)]:
            select = Select(ONE, ("u.a",), (("u.p", operator, "u.p"),))
            self.assertEqual(len(select.matches_in(people())), expected, operator)

    def test_name_columns_of_one_row(self):
        select = Select((("w", "s"),), ("w.b",), (("w.b", "=", "w.c"),))
        self.assertEqual(select.answer_in(people()), (("dog",),))

    def test_all_conditions_count(self):
        select = Select(ONE, ("u.a",), (("u.p", "=", 5), ("u.a", "=", "bob")))
        self.assertEqual(select.matches_in(people()), ((("bob", 5),),))

    def test_kept_columns(self):
        store = people()
        self.assertEqual(Select(ONE, ("u.a",)).answer_in(store), (("ann",), ("bob",), ("cat",)))
        self.assertEqual(Select(ONE, ("u.p", "u.a", "u.p")).answer_in(store),
                         ((0, "cat", 0), (3, "bob", 3), (5, "ann", 5), (5, "bob", 5)))
        self.assertEqual(Select(ONE, ("u.p",)).answer_in(store), ((0,), (3,), (5,)))
        self.assertEqual(Select(ONE, ("u.a", "u.a", "u.a", "u.a"), (("u.p", "=", 3),)).answer_in(store),
                         (("bob", "bob", "bob", "bob"),))

    def test_numbers_ascend_as_numbers(self):
        store = store_with(T, t=[("a", 10), ("a", 9), ("a", -10), ("a", -9), ("a", 100)])
        self.assertEqual(Select(ONE, ("u.p",)).answer_in(store), ((-10,), (-9,), (9,), (10,), (100,)))

    def test_two_uses_may_have_the_same_row(self):
        store = store_with(T, t=[("ann", 5)])
        self.assertEqual(Select(TWO, ("u.a",)).matches_in(store), ((("ann", 5), ("ann", 5)),))

    def test_matches_follow_the_order_of_the_uses(self):
        store = people()
        select = Select((("w", "s"), ("u", "t")), ("u.a",), (("w.c", "=", "u.a"),))
        self.assertEqual(select.matches_in(store), ((("ann", "bob"), ("bob", 3)), (("ann", "bob"), ("bob", 5))))

    def test_three_uses(self):
        store = people()
        select = Select((("u", "t"), ("w", "s"), ("v", "t")), ("u.a", "v.p"),
                        (("u.a", "=", "w.b"), ("v.a", "=", "w.c")))
        self.assertEqual(select.answer_in(store), (("ann", 3), ("ann", 5)))
        self.assertEqual(select.matches_in(store), ((("ann", 5), ("ann", "bob"), ("bob", 3)),
                                                    (("ann", 5), ("ann", "bob"), ("bob", 5))))
        self.assertEqual(len(Select((("u", "t"), ("v", "t"), ("w", "t")), ("u.a",)).matches_in(store)), 64)

    def test_empty(self):
        self.assertEqual((RICH.answer_in(Store(T, S)), RICH.matches_in(Store(T, S))), ((), ()))
        self.assertEqual(Select((("u", "t"), ("w", "s")), ("u.a",)).answer_in(store_with(T, S, t=[("a", 1)])), ())

    def test_number_columns_of_different_tables(self):
        store = store_with(T, R, t=[("ann", 5), ("bob", 1)], r=[("a", "b", 5, 1)])
        select = Select((("u", "t"), ("v", "r")), ("u.a",), (("u.p", "=", "v.n"), ("v.m", ">=", "u.p")))
        self.assertEqual(select.answer_in(store), (("bob",),))


class Withouts(unittest.TestCase):
    def test_with_conditions(self):
        self.assertEqual(FREE.answer_in(people()), (("bob",), ("cat",)))
        self.assertEqual(FREE.answer_in(Store(T, S)), ())

    def test_without_conditions(self):
        select = Select(ONE, ("u.a",), (), (((("w", "s"),), ()),))
        self.assertEqual(select.answer_in(people()), ())
        self.assertEqual(select.answer_in(store_with(T, S, t=[("ann", 1)])), (("ann",),))

    def test_conditions_of_the_select_alone(self):
        select = Select(ONE, ("u.a",), (), (((("w", "s"),), (("u.p", ">=", 3),)),))
        self.assertEqual(select.answer_in(people()), (("cat",),))
        self.assertEqual(select.answer_in(store_with(T, S, t=[("ann", 9)])), (("ann",),))

    def test_two_uses(self):
        inner = ((("v", "t"), ("w", "s")), (("v.a", "=", "w.b"), ("u.a", "=", "w.c")))
        self.assertEqual(Select(ONE, ("u.a",), (), (inner,)).answer_in(people()), (("ann",), ("cat",)))

    def test_all_conditions_of_one_without_together(self):
        inner = ((("w", "s"),), (("w.b", "=", "ann"), ("w.c", "=", "dog")))
        self.assertEqual(len(Select(ONE, ("u.a",), (), (inner,)).answer_in(people())), 3)

    def test_two_withouts(self):
        withouts = (((("w", "s"),), (("w.b", "=", "u.a"),)), ((("v", "t"),),
                                                              (("v.p", ">=", "u.p"), ("v.a", "!=", "u.a"))))
        self.assertEqual(Select(ONE, ("u.a", "u.p"), (), withouts).answer_in(people()), ())
        self.assertEqual(Select(ONE, ("u.a",), (), withouts[:1]).answer_in(people()), (("bob",), ("cat",)))
        self.assertEqual(Select(ONE, ("u.a",), (), withouts).answer_in(store_with(T, S, t=[("a", 1), ("b", 2)])),
                         (("b",),))

    def test_a_row_may_exclude_itself(self):
        select = Select(ONE, ("u.a",), (), (((("v", "t"),), (("v.a", "=", "u.a"),)),))
        self.assertEqual(select.answer_in(people()), ())


class Unions(unittest.TestCase):
    def test_rows_of_both(self):
        union = Union(RICH, Select((("u", "s"),), ("u.b",)))
        self.assertEqual(union.answer_in(people()), (("ann",), ("bob",), ("dog",)))
        self.assertEqual(union.matches_in(people()), (
            (0, (("ann", 5),)), (0, (("bob", 5),)), (1, (("ann", "bob"),)), (1, (("dog", "dog"),))))

    def test_the_same_select_twice(self):
        self.assertEqual(Union(RICH, RICH).answer_in(people()), (("ann",), ("bob",)))
        self.assertEqual(len(Union(RICH, RICH).matches_in(people())), 4)

    def test_one_has_none(self):
        none = Select(ONE, ("u.a",), (("u.p", ">=", 9),))
        self.assertEqual(Union(none, RICH).answer_in(people()), RICH.answer_in(people()))
        self.assertEqual(Union(none, RICH).matches_in(people()), ((1, (("ann", 5),)), (1, (("bob", 5),))))
        self.assertEqual(Union(none, none).answer_in(people()), ())


class Firsts(unittest.TestCase):
    ROWS = [("a", 4), ("b", 2), ("c", 2), ("d", 1), ("e", 4), ("f", 3)]

    def found(self, count, falling, rows=None):
        store = store_with(T, t=self.ROWS if rows is None else rows)
        first = First(Select(ONE, ("u.a", "u.p")), "u.p", count, falling)
        return "".join(name for name, _ in first.answer_in(store))

    def test_from_the_least(self):
        found = [self.found(count, False) for count in range(1, 9)]
        self.assertEqual(found, ["d", "bcd", "bcd", "bcdf", "abcdef", "abcdef", "abcdef", "abcdef"])

    def test_from_the_greatest(self):
        found = [self.found(count, True) for count in range(1, 9)]
        self.assertEqual(found, ["ae", "ae", "aef", "abcef", "abcef", "abcdef", "abcdef", "abcdef"])

    def test_all_tie(self):
        for falling in (False, True):
            self.assertEqual(self.found(1, falling, [("a", 7), ("b", 7), ("c", 7)]), "abc")

    def test_as_many_rows_as_count(self):
        for falling in (False, True):
            self.assertEqual(self.found(6, falling), "abcdef")
            self.assertEqual(self.found(1, falling, []), "")

    def test_it_ascends_in_both_directions(self):
        store = store_with(T, t=self.ROWS)
        select = Select(ONE, ("u.a", "u.p"))
        self.assertEqual(First(select, "u.p", 3, True).answer_in(store), (("a", 4), ("e", 4), ("f", 3)))
        self.assertEqual(First(select, "u.p", 2).answer_in(store), (("b", 2), ("c", 2), ("d", 1)))

    def test_rows_count_and_not_matches(self):
        store = store_with(T, t=[("a", 1), ("b", 1), ("c", 2), ("d", 3)])
        self.assertEqual(First(Select(ONE, ("u.p",)), "u.p", 2).answer_in(store), ((1,), (2,)))

    def test_by_may_be_kept_twice_or_late(self):
        store = store_with(T, t=self.ROWS)
        self.assertEqual(First(Select(ONE, ("u.p", "u.a", "u.p")), "u.p", 1).answer_in(store), ((1, "d", 1),))
        select = Select(TWO, ("u.p", "w.p"), (("u.a", "!=", "w.a"),))
        self.assertEqual(First(select, "w.p", 1).answer_in(store), ((2, 1), (3, 1), (4, 1)))

    def test_matches_are_those_of_the_select(self):
        select = Select(ONE, ("u.a", "u.p"))
        store = store_with(T, t=self.ROWS)
        self.assertEqual(First(select, "u.p", 1).matches_in(store), select.matches_in(store))
        self.assertEqual(len(First(select, "u.p", 1).matches_in(store)), 6)


class GroupsOfMatches(unittest.TestCase):
    def test_without_by(self):
        self.assertEqual(Groups(ONE).answer_in(people()), ((4,),))
        self.assertEqual(Groups(TWO).answer_in(people()), ((16,),))
        self.assertEqual(Groups(ONE).answer_in(Store(T)), ())

    def test_with_by(self):
        self.assertEqual(Groups(ONE, ("u.a",)).answer_in(people()), (("ann", 1), ("bob", 2), ("cat", 1)))
        self.assertEqual(Groups(ONE, ("u.a", "u.a")).answer_in(people()),
                         (("ann", "ann", 1), ("bob", "bob", 2), ("cat", "cat", 1)))
        self.assertEqual(Groups(TWO, ("w.a", "u.a"), (("u.p", "<=", 3), ("w.p", "=", 5))).answer_in(people()),
                         (("ann", "bob", 1), ("ann", "cat", 1), ("bob", "bob", 1), ("bob", "cat", 1)))

    def test_least_and_greatest(self):
        self.assertEqual(Groups(ONE, ("u.a",), least="u.p").answer_in(people()),
                         (("ann", 1, 5), ("bob", 2, 3), ("cat", 1, 0)))
        self.assertEqual(Groups(ONE, ("u.a",), greatest="u.p").answer_in(people()),
                         (("ann", 1, 5), ("bob", 2, 5), ("cat", 1, 0)))
        self.assertEqual(Groups(ONE, least="u.p", greatest="u.p").answer_in(people()), ((4, 0, 5),))

    def test_least_of_one_column_and_greatest_of_another(self):
        store = store_with(R, r=[("a", "b", 1, 9), ("a", "c", 4, 7), ("b", "b", 2, 2)])
        question = Groups((("v", "r"),), ("v.x",), least="v.n", greatest="v.m")
        self.assertEqual(question.answer_in(store), (("a", 2, 7, 4), ("b", 1, 2, 2)))

    def test_bounds(self):
        for having, expected in [
                ((("count", ">=", 2),), [("bob", 2, 3, 5)]), ((("count", "<=", 1),),
                                                              [("ann", 1, 5, 5), ("cat", 1, 0, 0)]),
                ((("least", ">=", 3),), [("ann", 1, 5, 5), ("bob", 2, 3, 5)]),
                ((("least", "<=", 0),), [("cat", 1, 0, 0)]),
                ((("greatest", ">=", 5), ("least", "<=", 4)), [("bob", 2, 3, 5)]),
                ((("greatest", "<=", 4),), [("cat", 1, 0, 0)]), ((("count", ">=", 3),), [])]:
            question = Groups(ONE, ("u.a",), (), (), "u.p", "u.p", having)
            self.assertEqual(question.answer_in(people()), tuple(expected), having)

    def test_where_and_withouts(self):
        question = Groups(ONE, ("u.a",), (("u.p", ">=", 3),), (((("w", "s"),), (("w.b", "=", "u.a"),)),))
        self.assertEqual(question.answer_in(people()), (("bob", 2),))
        self.assertEqual(question.matches_in(people()), ((("bob", 3),), (("bob", 5),)))

    def test_bounds_do_not_count_for_matches(self):
        self.assertEqual(len(Groups(ONE, having=(("count", ">=", 9),)).matches_in(people())), 4)


class Everywhere(unittest.TestCase):
    def test_by_trying_every_tuple_of_rows(self):
        chance = random.Random(7)
        for _ in range(3000):
            tables = make_tables(chance)
            store = make_store(chance, tables)
            question = make_question(chance, tables)
            self.assertIs(question.fits(*tables), True)
            before = store.text()
            self.assertEqual(question.answer_in(store), naive_answer(question, store), question.text())
            self.assertEqual(question.matches_in(store), naive_matches(question, store), question.text())
            self.assertEqual(store.text(), before)

    def test_many_rows(self):
        store = store_with(T, S, t=[(name, at) for name in ("a", "b") for at in range(4)],
                           s=[(name, "x") for name in "abcd"])
        inner = ((("x", "t"), ("y", "t")), (("x.p", "!=", "u.p"), ("y.p", ">=", "v.p"), ("x.a", "=", "w.b")))
        select = Select((("u", "t"), ("v", "t"), ("w", "s")), ("u.a", "v.p"), (("u.a", "!=", "v.a"),), (inner, ))
        self.assertEqual(select.answer_in(store), naive_answer(select, store))

    def test_the_same_question_in_other_stores(self):
        question = Select((("u", "t"), ("w", "s")), ("u.a", "w.p"), (("u.p", ">=", 1), ("u.a", "=", "w.a")))
        one = store_with(Table("t", ("a",), ("p",)), Table("s", ("a",), ("p",)), t=[("x", 1), ("y", 0)],
                         s=[("x", 7), ("y", 8)])
        other = store_with(Table("s", ("b", "a"), ("q", "p")), Table("n", ("a",)), Table("t", ("b", "a"), ("q", "p")),
                           t=[("y", "x", 0, 3), ("x", "y", 5, 0)], s=[("z", "x", 1, 9), ("x", "y", 2, 4)])
        numbers = store_with(Table("t", (), ("a", "p")), Table("s", (), ("a", "p")), t=[(5, 1), (6, 0)],
                             s=[(5, -1), (6, -2)])
        for _ in range(2):
            self.assertEqual(question.answer_in(one), (("x", 7),))
            self.assertEqual(question.answer_in(other), (("x", 9),))
            self.assertEqual(question.matches_in(other), ((("y", "x", 0, 3), ("z", "x", 1, 9)),))
            self.assertEqual(question.answer_in(numbers), ((5, -1),))
            self.assertRaises(InvalidQuestion, question.answer_in, example_store())

    def test_the_store_as_it_is_now(self):
        store = example_store()
        before = RICH.answer_in(store), RICH.matches_in(store)
        store.do(("insert", "t", ("cat", 9)))
        self.assertEqual(before, ((("ann",),), ((("ann", 5),),)))
        self.assertEqual(RICH.answer_in(store=store), (("ann",), ("cat",)))
        self.assertEqual(RICH.matches_in(store=store), ((("ann", 5),), (("cat", 9),)))
