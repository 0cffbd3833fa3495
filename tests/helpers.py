"""What several tests use: the definitions of the document's examples, and values of all kinds."""

from whatturns.errors import InvalidChange, UnknownTable
from whatturns.questions import First, Groups, Select, Union
from whatturns.stores import Store
from whatturns.tables import Table

T = Table("t", ("a",), ("p",))
S = Table("s", ("b", "c"), (), ("b",))
RICH = Select((("u", "t"),), ("u.a",), (("u.p", ">=", 4),))
FREE = Select((("u", "t"),), ("u.a",), (), (((("w", "s"),), (("w.b", "=", "u.a"),)),))


def example_store():
    """The document's store, made anew."""
    store = Store(T, S)
    store.do(("insert", "t", ("ann", 5)), ("insert", "t", ("bob", 3)), ("insert", "s", ("ann", "cat")))
    return store


def store_with(*tables, **rows):
    """A store of the tables with the rows that are given by the names of the tables."""
    store = Store(*tables)
    for name, there in rows.items():
        for row in there:
            assert store.do(("insert", name, row)) == (True,)
    return store


def nested(kind, depth):
    """Tuples, lists or dicts in one another."""
    value = "u"
    for _ in range(depth):
        if kind == "tuple":
            value = (value,)
        elif kind == "list":
            value = [value]
        else:
            value = {"u": value}
    return value


def deep_key(depth):
    """A dict whose key is nested."""
    return {nested("tuple", depth): 1}


def any_values():
    """Values of all kinds that an argument may be given."""
    return [
        None, True, False, 0, 1, -1, 2, 10 ** 39, "", "u", "t", "u.a", "u.p", "=", "count", "Ann", "ann bob", "\n",
        "a" * 4000, (), ("u",), ("u.a",), ("u.a", "u.p"), (("u", "t"),), ((("u", "t"),), ()), ("u", "t", "a"),
        (None,), (True, 1), [], ["u"], [("u", "t")], {}, {"u": "t"}, {1: True}, {True: 1}, {(1, True): None},
        nested("tuple", 99), nested("list", 99), nested("dict", 99), deep_key(90),
        ("u",) * 19000, [True] * 19000, {at: "u" for at in range(9000)},
        (("u", "t"),) * 6000, (("u.p", "=", 4),) * 4000,
        T, S, example_store(), RICH, FREE, Union(RICH, FREE), First(RICH, "u.p", 1), Groups((("u", "t"),)),
        (RICH, [FREE], {"u": T}), InvalidChange([1]), UnknownTable(None),
    ]
