"""Tables: names, columns and keys, and which tuples are rows."""

from whatturns.errors import InvalidTable
from whatturns.values import is_number

_LONGEST_NAME = 8
_MOST_COLUMNS = 2


def is_name(thing):
    """Whether it is a string of one to eight letters a to z."""
    if not isinstance(thing, str) or len(thing) > _LONGEST_NAME:
        return False
    return thing.isascii() and thing.isalpha() and thing.islower()


def table_named(name, tables):
    """The table with this name, a value of any kind, or None."""
    for table in tables:
        if table.name == name:
            return table
    return None


class Table:
    """A table of a store: its name, its name columns, its number columns, and the columns of its key."""

    def __init__(self, name, names, numbers=(), key=()):
        if not (is_name(name) and _are_columns(names, numbers) and _is_key(key, names + numbers)):
            raise InvalidTable()
        self.name = name
        self.names = names
        self.numbers = numbers
        self.key = key

    @property
    def columns(self):
        """The names of all columns, in order."""
        return self.names + self.numbers

    def is_row(self, thing):
        """Whether it is a tuple with a name for each name column and then an integer for each number column."""
        if not isinstance(thing, tuple) or len(thing) != len(self.names) + len(self.numbers):
            return False
        split = len(self.names)
        return all([is_name(value) for value in thing[:split]]) and all([is_number(value) for value in thing[split:]])

    def clash(self, one, other):
        """Whether two rows have the same values in all columns of the key, if there is a key."""
        places = [place for place, column in enumerate(self.columns) if column in self.key]
        return len(places) > 0 and all([one[place] == other[place] for place in places])

    def __eq__(self, other):
        return (isinstance(other, Table) and self.name == other.name and self.names == other.names
                and self.numbers == other.numbers and self.key == other.key)


def _are_columns(names, numbers):
    """Whether these are the name columns and the number columns of a table."""
    if not (_are_names(names) and _are_names(numbers)):
        return False
    columns = names + numbers
    return len(columns) > 0 and len(set(columns)) == len(columns)


def _are_names(thing):
    """Whether it is a tuple of none to two names."""
    return isinstance(thing, tuple) and len(thing) <= _MOST_COLUMNS and all([is_name(name) for name in thing])


def _is_key(thing, columns):
    """Whether it is a tuple of some of the columns, in their order."""
    return isinstance(thing, tuple) and thing == tuple([column for column in columns if column in thing])
