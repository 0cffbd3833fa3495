"""Stores and questions of the size that the document allows, made by a seeded source of chance."""

import itertools

from whatturns.questions import First, Groups, Select, Union
from whatturns.stores import Store
from whatturns.tables import Table

COLUMNS = ("a", "b", "p", "q")
NAMES = [one + other for one, other in itertools.product("abcdefgh", repeat=2)]


def large_store(chance, count, key=()):
    """A store with one table and so many rows, whose values are all different."""
    table = Table("r", ("a", "b"), ("p", "q"), key)
    store = Store(table)
    names = chance.sample(NAMES, 2 * count)
    numbers = chance.sample(range(-300, 300), 2 * count)
    for place in range(0, 2 * count, 2):
        store.do(("insert", "r", (*names[place:place + 2], *numbers[place:place + 2])))
    assert len(store) == count
    return store


def comparisons(chance, new, aliases, count):
    """Conditions on new aliases that go through all columns."""
    found = []
    columns = chance.sample(COLUMNS, 4)
    for number in range(count):
        column = columns[number % 4]
        one = chance.choice(new)
        other = chance.choice([alias for alias in aliases if alias != one])
        if column in ("a", "b"):
            other_column = chance.choice(("a", "b")) if chance.random() < 0.3 else column
            found.append((f"{one}.{column}", chance.choice(("!=", "!=", "=")), f"{other}.{other_column}"))
        else:
            found.append((f"{one}.{column}", chance.choice(("<=", ">=", "<=", ">=", "!=", "=")), f"{other}.{column}"))
    return tuple(found)


def large_body(chance, most_inner=2):
    aliases = ["u", "v", "w"][:chance.choice((2, 2, 3))]
    where = comparisons(chance, aliases, aliases, chance.randint(3, 8))
    withouts = []
    for number in range(chance.choice((0, 1, 1, 2))):
        inner = ["x", "y"][:chance.randint(1, most_inner)]
        inner = [alias * (number + 1) for alias in inner]
        conditions = comparisons(chance, inner, aliases + inner, chance.randint(3, 6))
        withouts.append((tuple((alias, "r") for alias in inner), conditions))
    return tuple((alias, "r") for alias in aliases), where, tuple(withouts)


def large_select(chance, kept):
    """A select that keeps so many columns, with a number in front."""
    uses, where, withouts = large_body(chance)
    columns = [f"{alias}.{column}" for alias, _ in uses for column in COLUMNS]
    first = chance.choice([column for column in columns if column[-1] in "pq"])
    rest = chance.sample([column for column in columns if column[-1] in "ab"], kept - 1)
    return Select(uses, (first, *rest), where, withouts)


def large_question(chance):
    kind = chance.choice(("select", "union", "first", "groups"))
    if kind == "groups":
        return large_groups(chance)
    kept = chance.randint(1, 4)
    select = large_select(chance, kept)
    if kind == "union":
        return Union(select, large_select(chance, kept))
    if kind == "first":
        return First(select, select.keep[0], chance.randint(1, 5), chance.random() < 0.5)
    return select


def large_groups(chance):
    uses, where, withouts = large_body(chance)
    by = tuple(chance.sample([f"{alias}.{column}" for alias, _ in uses for column in "ab"], chance.randint(0, 2)))
    numbers = [None] + [f"{alias}.{column}" for alias, _ in uses for column in "pq"]
    least, greatest = chance.choice(numbers), chance.choice(numbers)
    having = [("count", chance.choice(("<=", ">=")), chance.randint(1, 5))]
    having += [("least", chance.choice(("<=", ">=")), chance.randint(-300, 300))] if least else []
    having += [("greatest", chance.choice(("<=", ">=")), chance.randint(-300, 300))] if greatest else []
    return Groups(uses, by, where, withouts, least, greatest, tuple(bound for bound in having if chance.random() < 0.5))
