"""Which questions fit which tables, their texts and their equality (points 7 to 12)."""

import inspect
import itertools
import random
import unittest

from tests.helpers import FREE, RICH, S, T, any_values, example_store
from tests.making import make_question, make_store, make_tables
from whatturns import questions
from whatturns.errors import InvalidQuestion, TurnError
from whatturns.questions import First, Groups, Question, Select, Union
from whatturns.stores import Store
from whatturns.tables import Table

R = Table("r", ("x", "y"), ("m", "n"))
N = Table("n", (), ("p",))
TABLES = (T, S, R)
ONE = (("u", "t"),)
USES = (("u", "t"), ("w", "s"), ("v", "r"))
BOTH = Select(ONE, ("u.a", "u.p"))
FULL_SELECT = Select((("u", "t"), ("v", "t")), ("u.a", "v.p"), (("u.a", "=", "v.a"), ("u.p", ">=", 1)),
                     (((("w", "s"), ("x", "t")), (("w.b", "!=", "u.a"), ("x.p", "=", "v.p"))),))
FULL_GROUPS = Groups(FULL_SELECT.uses, ("u.a", "v.a"), FULL_SELECT.where, FULL_SELECT.without, "u.p", "v.p",
                     (("count", ">=", 1), ("least", "<=", 2), ("greatest", ">=", 3)))


def arguments(question):
    """The names of the arguments, in order."""
    return list(inspect.signature(type(question).__init__).parameters)[1:]


def changed(question, **others):
    """The question with other arguments."""
    return type(question)(**{**{name: getattr(question, name) for name in arguments(question)}, **others})


def replaced(value):
    """The ways to put another value at one place of nested tuples."""
    for thing in (None, True, False, 1, 0, -1, "", "u", "u.a", "u.p", "zzz", "zzz.a", "u.zzz", (), ("u",), [], ["u"],
                  {}, T):
        yield thing
    if isinstance(value, tuple):
        for place, part in enumerate(value):
            yield value[:place] + value[place + 1:]
            yield value[:place] + (part,) + value[place:]
            yield list(value)
            for other in replaced(part):
                yield (*value[:place], other, *value[place + 1:])


class Fitting(unittest.TestCase):
    def right(self, question, *tables):
        tables = tables or TABLES
        self.assertIs(question.fits(*tables), True)
        self.assertIsNone(question.check(*tables))
        store = Store(*tables)
        self.assertIsInstance(question.answer_in(store), tuple)
        self.assertIsInstance(question.matches_in(store), tuple)
        self.assertIsInstance(question.text(), str)

    def wrong(self, question, *tables):
        tables = tables or TABLES
        self.assertIs(question.fits(*tables), False)
        store = Store(*tables)
        for call in (lambda: question.check(*tables), lambda: question.answer_in(store),
                     lambda: question.matches_in(store)):
            with self.assertRaises(InvalidQuestion) as context:
                call()
            self.assertIs(type(context.exception), InvalidQuestion)
            self.assertIsInstance(context.exception, TurnError)

    def where(self, *condition, uses=USES):
        return Select(uses, (f"{uses[0][0]}.a",), (condition,))


class Uses(Fitting):
    def test_one_to_three(self):
        self.right(Select(USES, ("u.a",)))
        self.right(Select((("u", "t"), ("v", "t"), ("w", "t")), ("u.a",)))
        self.wrong(Select((), ("u.a",)))
        self.wrong(Select(USES + (("x", "t"),), ("u.a",)))
        self.right(Groups(USES))
        self.wrong(Groups(()))
        self.wrong(Groups(USES + (("x", "t"),)))

    def test_aliases_are_names_and_different(self):
        self.right(Select((("t", "t"), ("s", "t")), ("t.a",)))
        self.right(Select((("abcdefgh", "t"),), ("abcdefgh.a",)))
        for alias in ["U", "", "u1", "ninechars", None, 1, ("u",), ["u"], T]:
            self.wrong(Select(((alias, "t"),), (f"{alias}.a",)))
            self.wrong(Select((("u", "t"), (alias, "t")), ("u.a",)))
        self.wrong(Select((("u", "t"), ("u", "t")), ("u.a",)))
        self.wrong(Select((("u", "t"), ("v", "t"), ("u", "s")), ("u.a",)))
        self.wrong(Groups((("u", "t"), ("u", "s"))))

    def test_tables_are_there(self):
        for name in ["x", "T", "", "u", None, 1, True, ["t"], T]:
            self.wrong(Select((("u", name),), ("u.a",)))
        self.wrong(RICH, S)
        self.wrong(RICH, Table("x", ("a",), ("p",)))
        self.right(RICH, S, T)

    def test_without_tables(self):
        for question in (RICH, Union(RICH, RICH), First(BOTH, "u.p", 1), Groups(ONE)):
            self.assertIs(question.fits(), False)
            self.assertRaises(InvalidQuestion, question.check)

    def test_other_kinds(self):
        for uses in [[("u", "t")], (["u", "t"],), ("u", "t"), (("u",),), (("u", "t", "t"),), ({"u": "t"},), {"u": "t"},
                     (("t", "u"),), "ut", ("ut",)]:
            self.wrong(Select(uses, ("u.a",)))
            self.wrong(Groups(uses))


class Kept(Fitting):
    def test_one_to_four(self):
        self.right(Select(ONE, ("u.a",)))
        self.right(Select(ONE, ("u.a", "u.p", "u.a", "u.p")))
        self.right(Select(USES, ("w.b", "v.y", "v.n", "u.p")))
        self.wrong(Select(ONE, ()))
        self.wrong(Select(ONE, ("u.a",) * 5))

    def test_columns_of_the_uses(self):
        for column in ["u.b", "v.x", "t.a", "a", "u", ".a", "u.", "u..a", "u.a.a", "u.a ", "U.a", "", None, 1, ["u.a"],
                       ("u.a",), ("u", "a")]:
            self.wrong(Select(ONE, (column,)))
            self.wrong(Select(ONE, ("u.a", column)))
        self.wrong(Select(ONE, ("w.b",), (), (((("w", "s"),), ()),)))

    def test_other_kinds(self):
        for keep in [["u.a"], "u.a", {"u.a": 1}, None, "u"]:
            self.wrong(Select(ONE, keep))


class Conditions(Fitting):
    def test_name_columns(self):
        for operator in ("=", "!="):
            for operand in ["ann", "abcdefgh", "t", "u", "u.a", "w.b", "w.c", "v.x"]:
                self.right(self.where("u.a", operator, operand))
            for operand in [1, 0, True, None, "", "ninechars", "Ann", "u.p", "v.m", "x.a", "u.zzz", "u.", ("ann",),
                            ["u.a"]]:
                self.wrong(self.where("u.a", operator, operand))
        for operator in ["<=", ">=", "<", ">", "==", "", "in", None, True, ("=",), ["="]]:
            for operand in ("ann", "w.b", 1):
                self.wrong(self.where("u.a", operator, operand))

    def test_number_columns(self):
        for operator in ("=", "!=", "<=", ">="):
            for operand in [0, 5, -5, 10 ** 12, 10 ** 39, "u.p", "v.m", "v.n"]:
                self.right(self.where("u.p", operator, operand))
            for operand in ["ann", "u.a", "w.b", "5", "", True, False, None, (5,), [5], "u.zzz", "x.p", "p"]:
                self.wrong(self.where("u.p", operator, operand))
        for operator in ["<", ">", "==", "", "in", None, True, ("=",), ["="]]:
            self.wrong(self.where("u.p", operator, 5))

    def test_number_columns_of_one_table(self):
        uses = (("u", "t"), ("v", "r"), ("w", "r"))
        for column, operand, right in [("v.m", "v.m", True), ("v.m", "w.m", True), ("w.n", "v.n", True),
                                       ("v.n", "v.n", True),
                                       ("v.m", "v.n", False), ("v.m", "w.n", False), ("w.n", "v.m", False),
                                       ("u.p", "w.n", True), ("w.n", "u.p", True)]:
            for operator in ("=", "!=", "<=", ">="):
                question = self.where(column, operator, operand, uses=uses)
                (self.right if right else self.wrong)(question)

    def test_same_names_of_columns_in_other_tables(self):
        one, other = Table("t", ("a",), ("p", "q")), Table("s", ("a",), ("q", "p"))
        uses = (("u", "t"), ("v", "s"))
        for column, operand in itertools.product(("p", "q"), repeat=2):
            self.right(self.where(f"u.{column}", "<=", f"v.{operand}", uses=uses), one, other)
            found = self.where(f"u.{column}", "<=", f"u.{operand}", uses=uses)
            (self.right if column == operand else self.wrong)(found, one, other)

    def test_columns(self):
        for column in ["ann", "x.a", "u.b", "u.p.p", "", 1, None, True, ("u.p",), ["u.p"], {}]:
            self.wrong(self.where(column, "=", 1))
            self.wrong(self.where(column, "=", "ann"))

    def test_other_kinds(self):
        good = ("u.p", "=", 1)
        self.right(Select(ONE, ("u.a",), (good,) * 30))
        for where in [good, [good], None, "", (list(good),), (good[:2],), (good + (1,),), (good, None), {good: 1}]:
            self.wrong(Select(ONE, ("u.a",), where))
            self.wrong(Groups(ONE, (), where))


class Withouts(Fitting):
    INNER = ((("w", "s"),), (("w.b", "=", "u.a"),))

    def test_at_most_two(self):
        second = ((("x", "s"), ("y", "t")), (("y.p", "<=", "u.p"), ("x.c", "=", "y.a")))
        for withouts in [(), (self.INNER,), (self.INNER, second), (second, self.INNER), (((("w", "s"),), ()),)]:
            self.right(Select(ONE, ("u.a",), (), withouts))
            self.right(Groups(ONE, (), (), withouts))
        third = ((("z", "s"),), ())
        self.wrong(Select(ONE, ("u.a",), (), (self.INNER, second, third)))
        self.wrong(Groups(ONE, (), (), (self.INNER, second, third)))

    def test_one_or_two_uses(self):
        self.wrong(Select(ONE, ("u.a",), (), (((), ()),)))
        self.wrong(Select(ONE, ("u.a",), (), (((("w", "s"), ("x", "s"), ("y", "s")), ()),)))
        self.wrong(Select(ONE, ("u.a",), (), (((("w", "zzz"),), ()),)))

    def test_all_aliases_are_different(self):
        self.wrong(Select(ONE, ("u.a",), (), (((("u", "s"),), ()),)))
        self.wrong(Select(ONE, ("u.a",), (), (((("w", "s"), ("w", "s")), ()),)))
        self.wrong(Select(ONE, ("u.a",), (), (((("w", "s"),), ()), ((("w", "s"),), ()))))
        self.wrong(Groups(ONE, (), (), (((("w", "s"),), ()), ((("x", "s"), ("w", "t")), ()))))

    def test_columns_of_its_own_uses_and_of_the_select(self):
        for condition in [("u.a", "=", "ann"), ("u.p", ">=", 1), ("w.b", "=", "w.c"), ("u.a", "!=", "w.b")]:
            self.right(Select(ONE, ("u.a",), (), (((("w", "s"),), (condition,)),)))
        second = ((("x", "s"),), (("x.b", "=", "w.b"),))
        self.wrong(Select(ONE, ("u.a",), (), (self.INNER, second)))
        self.wrong(Select(ONE, ("u.a",), (), (second, self.INNER)))
        self.wrong(Select(ONE, ("u.a",), (("w.b", "=", "u.a"),), (self.INNER,)))
        self.wrong(Groups(ONE, ("w.b",), (), (self.INNER,)))

    def test_other_kinds(self):
        uses, conditions = self.INNER
        for without in [self.INNER, [self.INNER], (list(self.INNER),), None, (None,), ((uses,),),
                        ((uses, conditions, ()),),
                        ((list(uses), conditions),), ((uses, list(conditions)),), ((uses, None),),
                        ((None, conditions),),
                        ((uses, (("w.b", "=", 1),)),), ((uses, (("w.b", "<=", "u.a"),)),)]:
            self.wrong(Select(ONE, ("u.a",), (), without))
            self.wrong(Groups(ONE, (), (), without))


class Unions(Fitting):
    def test_the_same_kinds(self):
        self.right(Union(RICH, FREE))
        self.right(Union(BOTH, Select((("v", "r"),), ("v.y", "v.n"))))
        for keep in [("u.a",), ("u.p", "u.a"), ("u.a", "u.a"), ("u.p", "u.p"), ("u.a", "u.p", "u.p"),
                     ("u.a", "u.p", "u.a")]:
            self.wrong(Union(BOTH, Select(ONE, keep)))
            self.wrong(Union(Select(ONE, keep), BOTH))

    def test_both_are_selects(self):
        for thing in [None, True, "u", (), (RICH,), [RICH], T, Union(RICH, RICH), First(BOTH, "u.p", 1), Groups(ONE),
                      Question()]:
            self.wrong(Union(thing, RICH))
            self.wrong(Union(RICH, thing))
            self.wrong(Union(thing, thing))

    def test_both_fit(self):
        bad = Select(ONE, ("u.b",))
        self.wrong(Union(bad, RICH))
        self.wrong(Union(RICH, bad))
        self.wrong(Union(bad, bad))

    def test_kinds_depend_on_the_tables(self):
        union = Union(Select((("u", "t"),), ("u.a",)), Select((("u", "s"),), ("u.b",)))
        self.right(union, T, S)
        self.wrong(union, T, Table("s", (), ("b",)))


class Firsts(Fitting):
    def test_by_is_a_number_column_that_is_kept(self):
        self.right(First(BOTH, "u.p", 1))
        for by in ["u.a", "u.b", "p", "u", "", None, True, 1, ("u.p",), ["u.p"], T, RICH]:
            self.wrong(First(BOTH, by, 1))
        self.wrong(First(Select(ONE, ("u.a",)), "u.p", 1))
        self.wrong(First(Select((("u", "t"), ("v", "t")), ("u.p",)), "v.p", 1))

    def test_count(self):
        for count in (1, 2, 12, 10 ** 39):
            self.right(First(BOTH, "u.p", count))
        for count in [0, -1, True, False, None, "1", (1,), [1], T]:
            self.wrong(First(BOTH, "u.p", count))

    def test_falling_is_a_bool(self):
        self.right(First(BOTH, "u.p", 1, True))
        self.right(First(BOTH, "u.p", 1, False))
        for falling in [0, 1, None, "", "falling", (), (True,), [True]]:
            self.wrong(First(BOTH, "u.p", 1, falling))

    def test_the_select(self):
        for thing in [None, True, "u", (BOTH,), T, Union(BOTH, BOTH), First(BOTH, "u.p", 1), Groups(ONE), Question()]:
            self.wrong(First(thing, "u.p", 1))
        self.wrong(First(Select(ONE, ("u.p", "u.b")), "u.p", 1))


class GroupsOfMatches(Fitting):
    def test_by(self):
        for by in [(), ("u.a",), ("u.a", "u.a"), ("w.c", "v.y")]:
            self.right(Groups(USES, by))
        for by in [("u.p",), ("u.a", "v.m"), ("u.a",) * 3, ("u.b",), ["u.a"], "u.a", None, (None,), (("u.a",),),
                   ("x.a",)]:
            self.wrong(Groups(USES, by))

    def test_least_and_greatest(self):
        for column in [None, "u.p", "v.m", "v.n"]:
            self.right(Groups(USES, least=column))
            self.right(Groups(USES, greatest=column))
        for column in ["u.a", "u.b", "p", "", 0, 1, False, True, ("u.p",), ["u.p"], (), T]:
            self.wrong(Groups(USES, least=column))
            self.wrong(Groups(USES, greatest=column))
        self.wrong(Groups(ONE, (), (), (((("w", "t"),), ()),), "w.p"))

    def test_bounds(self):
        for operator in ("<=", ">="):
            for limit in (0, 1, -5, 10 ** 39):
                self.right(Groups(USES, having=(("count", operator, limit),)))
                self.right(Groups(USES, least="u.p", having=(("least", operator, limit),)))
                self.right(Groups(USES, greatest="u.p", having=(("greatest", operator, limit),)))
        self.right(Groups(ONE, having=(("count", ">=", 1),) * 9))
        self.wrong(Groups(USES, greatest="u.p", having=(("least", ">=", 1),)))
        self.wrong(Groups(USES, least="u.p", having=(("greatest", ">=", 1),)))
        good = ("count", ">=", 1)
        for place, things in [(0, ["Count", "u.p", "u.a", "", "sum", None, True, 1, ("count",), ["count"]]),
                              (1, ["=", "!=", "<", ">", "", None, ("<=",), [">="]]),
                              (2, ["1", "count", None, True, False, (1,), [1], "u.p"])]:
            for thing in things:
                self.wrong(Groups(USES, having=((*good[:place], thing, *good[place + 1:]),)))

    def test_other_kinds(self):
        good = ("count", ">=", 1)
        for having in [good, [good], (list(good),), (good[:2],), (good + (1,),), None, "", (None,), (good, None),
                       {good: 1}]:
            self.wrong(Groups(USES, having=having))


class AnyArguments(Fitting):
    def test_any_value_at_each_place(self):
        for question in (RICH, FULL_SELECT, Union(RICH, FREE), First(BOTH, "u.p", 1), FULL_GROUPS):
            self.right(question)
            for name in arguments(question):
                for thing in any_values():
                    self.agree(changed(question, **{name: thing}))
                    self.agree(changed(question, **{name: (thing,)}))
                    self.agree(changed(question, **{name: ((thing, thing, thing),)}))

    def test_one_part_replaced(self):
        for question in (FULL_SELECT, First(BOTH, "u.p", 1), FULL_GROUPS):
            for name in arguments(question):
                for thing in replaced(getattr(question, name)):
                    self.agree(changed(question, **{name: thing}))

    def agree(self, question):
        try:
            question.check(*TABLES)
        except InvalidQuestion:
            self.wrong(question)
        else:
            self.assertIs(question.fits(*TABLES), True)

    def test_large_ones_fit(self):
        self.right(Select(ONE, ("u.a",), (("u.p", "=", 4),) * 4000))
        self.right(Groups(ONE, having=(("count", ">=", 4),) * 4000))

    def test_questions_deep_in_one_another(self):
        union, first = RICH, BOTH
        for _ in range(90):
            union, first = Union(union, RICH), First(first, "u.p", 1)
        self.wrong(union)
        self.wrong(first)

    def test_the_arguments_are_attributes(self):
        values = any_values()
        for one, other in zip(values, values[1:] + values[:1]):
            select = Select(one, other, other, one)
            self.assertEqual([select.uses is one, select.keep is other, select.where is other, select.without is one],
                             [True] * 4)
            union = Union(other, one)
            self.assertEqual([union.first is other, union.second is one], [True] * 2)
            first = First(one, other, one, other)
            self.assertEqual([first.select is one, first.by is other, first.count is one, first.falling is other],
                             [True] * 4)
            groups = Groups(one, other, one, other, one, other, one)
            found = [groups.uses, groups.by, groups.where, groups.without, groups.least, groups.greatest, groups.having]
            self.assertEqual([value is (other if at % 2 else one) for at, value in enumerate(found)], [True] * 7)

    def test_defaults_and_names(self):
        select = Select(keep=("u.a",), uses=ONE)
        self.assertEqual((select.where, select.without), ((), ()))
        self.assertIs(First(count=1, by="u.p", select=BOTH).falling, False)
        groups = Groups(uses=ONE)
        self.assertEqual((groups.by, groups.where, groups.without, groups.having), ((), (), (), ()))
        self.assertEqual((groups.least, groups.greatest), (None, None))
        self.assertEqual(Union(second=RICH, first=FREE), Union(FREE, RICH))

    def test_arguments_do_not_change(self):
        where = [("u.p", "=", 1)]
        select = Select(ONE, ("u.a",), where)
        self.assertIs(select.fits(T), False)
        self.assertEqual(where, [("u.p", "=", 1)])


class Texts(unittest.TestCase):
    def test_selects(self):
        for question, text in [
                (RICH, "from t as u where u.p >= 4 keep u.a"),
                (FREE, "from t as u without s as w where w.b = u.a keep u.a"),
                (BOTH, "from t as u keep u.a, u.p"),
                (Select(USES, ("u.a",)), "from t as u, s as w, r as v keep u.a"),
                (Select(ONE, ("u.a",), (("u.p", "!=", -12), ("u.a", "=", "ann"))),
                 "from t as u where u.p != -12, u.a = ann keep u.a"),
                (Select(ONE, ("u.a",), (("u.p", "<=", 0),), (((("w", "s"),), ()), ((("x", "t"), ("y", "r")), ()))),
                 "from t as u where u.p <= 0 without s as w without t as x, r as y keep u.a"),
                (FULL_SELECT, "from t as u, t as v where u.a = v.a, u.p >= 1 without s as w, t as x "
                              "where w.b != u.a, x.p = v.p keep u.a, v.p")]:
            self.assertEqual(question.text(), text)

    def test_unions_and_firsts(self):
        self.assertEqual(Union(RICH, FREE).text(), "from t as u where u.p >= 4 keep u.a or "
                                                   "from t as u without s as w where w.b = u.a keep u.a")
        self.assertEqual(First(BOTH, "u.p", 12).text(), "from t as u keep u.a, u.p first 12 by u.p")
        self.assertEqual(First(BOTH, "u.p", 1, True).text(), "from t as u keep u.a, u.p first 1 by u.p falling")

    def test_groups(self):
        bounds = (("count", ">=", 2), ("least", "<=", -1))
        for question, text in [
                (Groups(ONE), "from t as u group"),
                (Groups(ONE, ("u.a",)), "from t as u group u.a"),
                (Groups(USES, ("u.a", "w.b")), "from t as u, s as w, r as v group u.a, w.b"),
                (Groups(ONE, least="u.p"), "from t as u group least u.p"),
                (Groups(ONE, greatest="u.p"), "from t as u group greatest u.p"),
                (Groups(ONE, having=bounds[:1]), "from t as u group having count >= 2"),
                (Groups(ONE, ("u.a",), (("u.p", "=", 1),), (((("w", "s"),), ()),), "u.p", "u.p", bounds),
                 "from t as u where u.p = 1 without s as w group u.a least u.p greatest u.p "
                 "having count >= 2, least <= -1"),
                (FULL_GROUPS, "from t as u, t as v where u.a = v.a, u.p >= 1 without s as w, t as x where w.b != u.a, "
                              "x.p = v.p group u.a, v.a least u.p greatest v.p "
                              "having count >= 1, least <= 2, greatest >= 3")]:
            self.assertEqual(question.text(), text)

    def test_words_of_the_language_as_names(self):
        uses = (("where", "as"), ("keep", "from"))
        question = Select(uses, ("where.or", "keep.by"), (("where.or", "=", "without"),), (((("as", "as"),), ()),))
        self.assertIs(question.fits(Table("as", ("or",)), Table("from", (), ("by",))), True)
        self.assertEqual(question.text(), "from as as where, from as keep where where.or = without "
                                          "without as as as keep where.or, keep.by")


class Equality(unittest.TestCase):
    QUESTIONS = [RICH, FREE, BOTH, FULL_SELECT, Union(RICH, FREE), Union(FREE, RICH), First(BOTH, "u.p", 1),
                 FULL_GROUPS,
                 First(BOTH, "u.p", 1, True), First(BOTH, "u.p", 2), Groups(ONE), Groups(ONE, ("u.a",))]

    def test_the_same_arguments(self):
        for at, one in enumerate(self.QUESTIONS):
            for place, other in enumerate(self.QUESTIONS):
                self.assertIs(one == changed(other), at == place)
                self.assertIs(one != changed(other), at != place)

    def test_each_argument_counts(self):
        for question in (FULL_SELECT, Union(RICH, FREE), First(BOTH, "u.p", 1), FULL_GROUPS):
            for name in arguments(question):
                for thing in any_values():
                    if repr(thing) == repr(getattr(question, name)):
                        continue
                    one, other = changed(question, **{name: thing}), changed(question, **{name: (thing,)})
                    self.assertFalse(one == question)
                    self.assertFalse(question == one)
                    self.assertFalse(one == other)
                    self.assertTrue(one == changed(one))

    def test_any_arguments(self):
        ones, others = any_values()[:-2], any_values()[:-2]
        for at, one in enumerate(ones):
            for place, other in enumerate(others):
                self.assertIs(Union(one, 1) == Union(other, 1), at == place, (at, place))

    def test_bools_at_the_same_places(self):
        for one, other in [
                (First(BOTH, "u.p", 1), First(BOTH, "u.p", True)),
                (First(BOTH, "u.p", 1, False), First(BOTH, "u.p", 1, 0)),
                (Select(ONE, ("u.a",), (("u.p", "=", 1),)), Select(ONE, ("u.a",), (("u.p", "=", True),))),
                (Select(ONE, ("u.a",), (), [{"a": (0,)}]), Select(ONE, ("u.a",), (), [{"a": (False,)}])),
                (Groups(ONE, having=(("count", ">=", 0),)), Groups(ONE, having=(("count", ">=", False),))),
                (Select({1: 2}, ()), Select({True: 2}, ())),
                (Union(First(BOTH, "u.p", 1), RICH), Union(First(BOTH, "u.p", True), RICH))]:
            self.assertIs(one == other, False)
            self.assertIs(other == one, False)
            self.assertIs(one == changed(one), True)
            self.assertIs(other == changed(other), True)

    def test_not_equal_to_anything_else(self):
        for question in self.QUESTIONS:
            for thing in any_values():
                if not isinstance(thing, Question):
                    self.assertFalse(question == thing)
                    self.assertFalse(thing == question)
        self.assertFalse(Select(ONE, ()) == Groups(ONE, ()))
        self.assertFalse(Union(1, 2) == First(1, 2, 3))
        self.assertFalse(Select(1, 2) == Question())

    def test_deep_ones(self):
        def deep(end):
            question = end
            for _ in range(95):
                question = Union(question, ())
            return question
        self.assertTrue(deep(1) == deep(1))
        self.assertFalse(deep(1) == deep(True))


class Classes(unittest.TestCase):
    def test_subclasses_of_question_alone(self):
        for kind in (Select, Union, First, Groups):
            self.assertEqual(kind.__bases__, (Question,))
            self.assertEqual(kind.__module__, questions.__name__)
            for method in ("check", "answer_in", "matches_in", "text"):
                self.assertIn(method, vars(kind))
        self.assertIn("fits", vars(Question))

    def test_made_questions_do_not_depend_on_the_order_of_tables(self):
        chance = random.Random(11)
        for _ in range(300):
            tables = make_tables(chance)
            store, question = make_store(chance, tables), make_question(chance, tables)
            other = Store(*reversed(tables))
            other.do(*[("insert", name, row) for name, row in store.walk()])
            self.assertEqual(question.answer_in(other), question.answer_in(store))
            self.assertEqual(question.matches_in(other), question.matches_in(store))
            self.assertIs(question.fits(*reversed(tables)), True)
            self.assertEqual(question.fits(example_store().table_of("t"), S),
                             question.fits(S, example_store().table_of("t")))
