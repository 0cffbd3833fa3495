"""Shapes, bounds and selects about all stores, made by a seeded source of chance; and trying small stores."""

import itertools

from tests.making import NAMES, make_conditions, columns_of
from whatturns.questions import Select
from whatturns.stores import Store
from whatturns.tables import Table


def make_plain_select(chance, tables, kinds=None, most=6):
    """A select without withouts, of one or two uses; its kept columns are of these kinds if they are given."""
    while True:
        aliases = chance.sample(["u", "v", "w", "t", "s"], 2)
        uses = tuple((alias, chance.choice(tables).name) for alias in aliases[:chance.choice((1, 2, 2))])
        names, numbers = columns_of(uses, tables)
        wanted = kinds or [chance.random() < 0.5 for _ in range(chance.choice((1, 1, 2, 2, 3)))]
        if all(numbers if kind else names for kind in wanted):
            keep = tuple(chance.choice(numbers if kind else names)[0] for kind in wanted)
            return Select(uses, keep, make_conditions(chance, uses, tables, most - len(keep)))


def make_keyed_select(chance):
    """A table with a key, and a select with two uses of it that have the same values in the columns of the key."""
    columns = ("a", "b", "p", "q")
    key = tuple(sorted(chance.sample(columns, chance.choice((1, 1, 2)))))
    table = Table("t", ("a", "b"), ("p", "q"), key)
    where = [(f"u.{column}", "=", f"v.{column}") for column in key]
    for _ in range(chance.randint(0, 2)):
        column = chance.choice(columns)
        operators = ("=", "!=") if column in "ab" else ("!=", "<=", ">=")
        where.append((f"u.{column}", chance.choice(operators), f"v.{column}"))
    chance.shuffle(where)
    keep = tuple(f"{chance.choice('uv')}.{chance.choice(columns)}" for _ in range(chance.choice((1, 2))))
    return table, Select((("u", "t"), ("v", "t")), keep, tuple(where))


def make_pinned(chance):
    """A table, a shape and a select whose conditions leave few rows."""
    table = Table("t", *chance.choice(((("a",), ()), ((), ("p",)), (("a",), ("p",)))))
    values = {"a": NAMES[:2], "p": (0, 1)}
    kind = chance.choice(("insert", "delete", "replace", "replace", "replace"))
    count = 2 if kind == "replace" else 1
    templates = [tuple(chance.choice(values[column]) for column in table.columns) for _ in range(count)]
    where = tuple((f"{alias}.{column}", "=", chance.choice(values[column])) for alias in "uv"
                  for column in table.columns if chance.random() < 0.9)
    keep = (f"{chance.choice('uv')}.{chance.choice(table.columns)}",)
    return table, (kind, "t", *templates), Select((("u", "t"), ("v", "t")), keep, where)


def make_entries(chance, table, count):
    """A template of the table; few parameters and values, so that they meet."""
    names = [chance.choice(("?x", "?x", "?y", "?z", chance.choice(NAMES))) for _ in table.names]
    numbers = [chance.choice(("?n", "?n", "?m", "?k", chance.randint(-1, 2))) for _ in table.numbers]
    return tuple(names[:count] + numbers)


def make_shape(chance, tables):
    table = chance.choice(tables)
    kind = chance.choice(("insert", "delete", "replace", "replace"))
    count = 2 if kind == "replace" else 1
    return (kind, table.name, *[make_entries(chance, table, 2) for _ in range(count)])


def parameters_of(shape):
    """The parameters of names and those of numbers."""
    found = dict.fromkeys(entry for row in shape[2:] for entry in row if isinstance(entry, str) and entry[0] == "?")
    return [entry for entry in found if entry in ("?x", "?y", "?z")], [
        entry for entry in found if entry in ("?n", "?m", "?k")]


def make_bounds(chance, shape):
    names, numbers = parameters_of(shape)
    bounds = []
    for _ in range(chance.choice((0, 0, 1, 2, 3, 4))):
        if names and (not numbers or chance.random() < 0.4):
            bounds.append((chance.choice(names), chance.choice(("=", "!=")), chance.choice((*NAMES, *names))))
        elif numbers:
            bounds.append((chance.choice(numbers), chance.choice(("=", "!=", "<=", ">=")),
                           chance.choice((*numbers, -1, 0, 1, 2))))
    return tuple(bounds)


def bound_holds(bound, values):
    parameter, operator, operand = bound
    one, other = values[parameter], values.get(operand, operand)
    return {"=": one == other, "!=": one != other, "<=": operator == "<=" and one <= other,
            ">=": operator == ">=" and one >= other}[operator]


def changes_of(shape, bounds, chance, most):
    """Some changes of the shape within its bounds, with values that are used and others."""
    names, numbers = parameters_of(shape)
    choices = [(*NAMES, "qq", "zz")] * len(names) + [tuple(range(-3, 5))] * len(numbers)
    total = 1
    for choice in choices:
        total *= len(choice)
    if total <= most:
        drawn = list(itertools.product(*choices))
    else:
        drawn = [tuple(chance.choice(choice) for choice in choices) for _ in range(most)]
    for row in drawn:
        values = dict(zip(names + numbers, row))
        if all(bound_holds(bound, values) for bound in bounds):
            yield (*shape[:2], *[tuple(values.get(entry, entry) for entry in part) for part in shape[2:]])


def small_store(chance, tables, most, extra=()):
    """A store with few rows of values that are used, and perhaps rows that are given as (table, row)."""
    store = Store(*tables)
    for name, row in extra:
        store.do(("insert", name, row))
    for _ in range(chance.randint(0, most)):
        table = chance.choice(tables)
        names = tuple(chance.choice((*NAMES, "qq")) for _ in table.names)
        store.do(("insert", table.name, names + tuple(chance.randint(-2, 3) for _ in table.numbers)))
    return store
