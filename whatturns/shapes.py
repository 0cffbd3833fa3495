"""Shapes of changes, their bounds, and which changes are of a shape."""

from whatturns.changes import changed_parts
from whatturns.errors import InvalidShape
from whatturns.tables import is_name
from whatturns.templates import are_templates, is_parameter, parameters_in
from whatturns.values import compares, is_number, same

_MOST_BOUNDS = 4
_NAME_OPERATORS = ("=", "!=")
_NUMBER_OPERATORS = ("=", "!=", "<=", ">=")


def is_shape(thing, *tables):
    """Whether it is a shape of changes of one of the tables."""
    parts = changed_parts(thing, tables)
    if parts is None:
        return False
    table, templates = parts
    return are_templates(templates, table)


def are_bounds(thing, shape, *tables):
    """Whether these are bounds of the parameters of the shape."""
    if not is_shape(shape, *tables):
        raise InvalidShape()
    table, templates = changed_parts(shape, tables)
    names, numbers = parameters_in(templates, table)
    if not isinstance(thing, tuple) or len(thing) > _MOST_BOUNDS:
        return False
    return all([_is_bound(part, names, numbers) for part in thing])


def is_of_shape(change, shape, bounds, tables):
    """Whether values of the parameters that keep the bounds make this change of the tables of the shape."""
    if change[:2] != shape[:2]:
        return False
    _, rows = changed_parts(change, tables)
    _, templates = changed_parts(shape, tables)
    known = {}
    for entry, value in zip(_joined(templates), _joined(rows)):
        if not same(known.setdefault(entry, value) if is_parameter(entry) else entry, value):
            return False
    return all([compares(known[parameter], operator, known.get(operand, operand))
                for parameter, operator, operand in bounds])


def _is_bound(thing, names, numbers):
    """Whether it is a condition on one of the parameters."""
    if not isinstance(thing, tuple) or len(thing) != 3:
        return False
    parameter, operator, operand = thing
    if parameter in names:
        return operator in _NAME_OPERATORS and (is_name(operand) or operand in names)
    if parameter in numbers:
        return operator in _NUMBER_OPERATORS and (is_number(operand) or operand in numbers)
    return False


def _joined(rows):
    """The values of all rows, one after the other."""
    return [value for row in rows for value in row]
