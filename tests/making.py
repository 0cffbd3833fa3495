"""Stores and valid questions, made by a seeded source of chance."""

from whatturns.questions import First, Groups, Select, Union
from whatturns.stores import Store
from whatturns.tables import Table

NAMES = ("ann", "bob", "u")
ALIASES = ("u", "v", "w", "x", "y", "z", "t")


def make_tables(chance):
    tables = []
    for name in chance.sample(["s", "t", "u"], chance.randint(1, 3)):
        columns = chance.sample(["a", "b", "p", "q"], 4)
        split, rest = chance.randint(0, 2), chance.randint(0, 2)
        names, numbers = tuple(columns[:split]), tuple(columns[2:2 + rest])
        if not names + numbers:
            names = ("a",)
        key = tuple(column for column in names + numbers if chance.random() < 0.2)
        tables.append(Table(name, names, numbers, key))
    return tables


def make_store(chance, tables, most=5):
    store = Store(*tables)
    for table in tables:
        for _ in range(chance.randint(0, most)):
            names = tuple(chance.choice(NAMES) for _ in table.names)
            store.do(("insert", table.name, names + tuple(chance.randint(-1, 2) for _ in table.numbers)))
    return store


def columns_of(uses, tables):
    """(column, table, name) for the name columns of the uses, then for their number columns."""
    named = {table.name: table for table in tables}
    names = [(f"{alias}.{name}", named[table], name) for alias, table in uses for name in named[table].names]
    numbers = [(f"{alias}.{name}", named[table], name) for alias, table in uses for name in named[table].numbers]
    return names, numbers


def make_condition(chance, uses, tables):
    names, numbers = columns_of(uses, tables)
    if names and (not numbers or chance.random() < 0.5):
        others = list(NAMES) + [column for column, _, _ in names]
        return (chance.choice(names)[0], chance.choice(("=", "!=")), chance.choice(others))
    column, table, name = chance.choice(numbers)
    others = [other for other, place, found in numbers if place != table or found == name]
    return (column, chance.choice(("=", "!=", "<=", ">=")), chance.choice(others + [-1, 0, 1, 2]))


def make_conditions(chance, uses, tables, most):
    return tuple(make_condition(chance, uses, tables) for _ in range(chance.randint(0, most)))


def make_body(chance, tables):
    aliases = chance.sample(ALIASES, 7)
    uses = tuple((aliases.pop(), chance.choice(tables).name) for _ in range(chance.choice((1, 1, 2, 2, 3))))
    without = []
    for _ in range(chance.choice((0, 0, 1, 2))):
        inner = tuple((aliases.pop(), chance.choice(tables).name) for _ in range(chance.randint(1, 2)))
        without.append((inner, make_conditions(chance, uses + inner, tables, 3)))
    return uses, make_conditions(chance, uses, tables, 3), tuple(without)


def make_select(chance, tables, kinds=None):
    """A select, whose kept columns are of these kinds (True for numbers) if kinds are given and can be had."""
    while True:
        uses, where, without = make_body(chance, tables)
        names, numbers = columns_of(uses, tables)
        wanted = kinds or [chance.random() < 0.5 for _ in range(chance.randint(1, 4))]
        if all(numbers if kind else names for kind in wanted):
            keep = tuple(chance.choice(numbers if kind else names)[0] for kind in wanted)
            return Select(uses, keep, where, without), wanted


def make_groups(chance, tables):
    uses, where, without = make_body(chance, tables)
    names, numbers = columns_of(uses, tables)
    by = tuple(chance.choice(names)[0] for _ in range(chance.randint(0, 2))) if names else ()
    least = chance.choice(numbers)[0] if numbers and chance.random() < 0.5 else None
    greatest = chance.choice(numbers)[0] if numbers and chance.random() < 0.5 else None
    given = ["count"] + ["least"] * (least is not None) + ["greatest"] * (greatest is not None)
    having = tuple((chance.choice(given), chance.choice(("<=", ">=")), chance.randint(-1, 3))
                   for _ in range(chance.choice((0, 0, 1, 2))))
    return Groups(uses, by, where, without, least, greatest, having)


def make_question(chance, tables):
    """A question of any of the four classes that fits the tables."""
    kind = chance.choice(("select", "union", "first", "groups"))
    if kind == "groups":
        return make_groups(chance, tables)
    select, kinds = make_select(chance, tables)
    if kind == "union":
        return Union(select, make_select(chance, tables, kinds)[0])
    if kind == "first" and True in kinds:
        return First(select, select.keep[kinds.index(True)], chance.randint(1, 3), chance.random() < 0.5)
    return select
