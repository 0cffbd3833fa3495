"""The uses, columns, conditions and withouts of a question, and whether they are such for given tables."""

from whatturns.tables import is_name, table_named
from whatturns.values import is_number

_MOST_USES = 3
_MOST_WITHOUTS = 2
_MOST_USES_WITHOUT = 2
_NAME_OPERATORS = ("=", "!=")
_NUMBER_OPERATORS = ("=", "!=", "<=", ">=")


class Spot:
    """Where a column of a question stands: the place of its use, and its place in the rows there."""

    def __init__(self, place, at, table, column):
        self.place = place
        self.at = at
        self.table = table.name
        self.column = column
        self.numeric = column in table.numbers

    def value_in(self, rows):
        """The value of the column, of a row for each use."""
        return rows[self.place][self.at]


def scope_of(uses, tables):
    """The spots of all columns of the uses, by their names in the question."""
    spots = {}
    for place, (alias, name) in enumerate(uses):
        table = table_named(name, tables)
        for at, column in enumerate(table.columns):
            spots[f"{alias}.{column}"] = Spot(place, at, table, column)
    return spots


def is_body(uses, where, without, tables):
    """Whether these are the uses, the conditions and the withouts of a select or a groups."""
    if not _are_uses(uses, _MOST_USES, tables) or not _are_withouts(without, tables):
        return False
    inner_uses = [use for inner, _ in without for use in inner]
    aliases = [alias for alias, _ in [*uses, *inner_uses]]
    if len(set(aliases)) != len(aliases):
        return False
    if not _are_conditions(where, scope_of(uses, tables)):
        return False
    return all([_are_conditions(conditions, scope_of(uses + inner, tables)) for inner, conditions in without])


def is_name_column(thing, scope):
    """Whether it is a name column in the scope."""
    return _is_column(thing, scope) and not scope[thing].numeric


def is_number_column(thing, scope):
    """Whether it is a number column in the scope."""
    return _is_column(thing, scope) and scope[thing].numeric


def are_columns(thing, least, most, scope):
    """Whether it is a tuple of so many columns in the scope."""
    return isinstance(thing, tuple) and least <= len(thing) <= most and all([_is_column(part, scope) for part in thing])


def _is_column(thing, scope):
    return isinstance(thing, str) and thing in scope


def _are_uses(thing, most, tables):
    """Whether it is a tuple of one to so many uses; their aliases may still be the same."""
    return isinstance(thing, tuple) and 1 <= len(thing) <= most and all([_is_use(use, tables) for use in thing])


def _is_use(thing, tables):
    if not isinstance(thing, tuple) or len(thing) != 2:
        return False
    alias, name = thing
    return is_name(alias) and table_named(name, tables) is not None


def _are_withouts(thing, tables):
    """Whether it is a tuple of withouts, as far as their uses tell."""
    if not isinstance(thing, tuple) or len(thing) > _MOST_WITHOUTS:
        return False
    if not all([isinstance(part, tuple) and len(part) == 2 for part in thing]):
        return False
    return all([_are_uses(inner, _MOST_USES_WITHOUT, tables) for inner, _ in thing])


def _are_conditions(thing, scope):
    return isinstance(thing, tuple) and all([_is_condition(part, scope) for part in thing])


def _is_condition(thing, scope):
    """Whether it is a condition on the columns in the scope."""
    if not isinstance(thing, tuple) or len(thing) != 3:
        return False
    column, operator, operand = thing
    if is_name_column(column, scope):
        return operator in _NAME_OPERATORS and (is_name(operand) or is_name_column(operand, scope))
    if is_number_column(column, scope):
        return operator in _NUMBER_OPERATORS and _is_number_operand(operand, scope[column], scope)
    return False


def _is_number_operand(thing, spot, scope):
    """Whether the number column of the spot may be compared with it."""
    if not is_number_column(thing, scope):
        return is_number(thing)
    other = scope[thing]
    return other.table != spot.table or other.column == spot.column
