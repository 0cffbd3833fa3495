"""Templates: rows with parameters in them."""

from whatturns.tables import Table, is_name
from whatturns.values import is_number


def is_parameter(thing):
    """Whether it is a question mark with a name behind it."""
    return isinstance(thing, str) and thing.startswith("?") and is_name(thing[1:])


def are_templates(things, table):
    """Whether all are templates of the table, in which each parameter stands at columns of one kind alone."""
    if not all([_has_entries(thing, table) for thing in things]):
        return False
    names, numbers = parameters_in(things, table)
    return not any([parameter in numbers for parameter in names])


def parameters_in(templates, table):
    """The parameters at name columns and those at number columns, in the order in which they first stand."""
    split = len(table.names)
    return _parameters([part[:split] for part in templates]), _parameters([part[split:] for part in templates])


def parameters_table(template, table):
    """The table whose columns are the parameters of the template."""
    names, numbers = parameters_in([template], table)
    return Table("params", tuple([name[1:] for name in names]), tuple([number[1:] for number in numbers]))


def _has_entries(thing, table):
    """Whether it is a tuple with a parameter or a value for each column."""
    if not isinstance(thing, tuple) or len(thing) != len(table.columns):
        return False
    split = len(table.names)
    names = all([is_parameter(part) or is_name(part) for part in thing[:split]])
    return names and all([is_parameter(part) or is_number(part) for part in thing[split:]])


def _parameters(parts):
    found = []
    for entry in [entry for part in parts for entry in part]:
        if is_parameter(entry) and entry not in found:
            found.append(entry)
    return found
