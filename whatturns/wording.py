"""The words of questions."""


def body_text(uses, where, without):
    """The text of the uses, conditions and withouts of a select or a groups."""
    parts = [f"from {_uses_text(uses)}{_where_text(where)}"]
    for inner, conditions in without:
        parts.append(f"without {_uses_text(inner)}{_where_text(conditions)}")
    return " ".join(parts)


def columns_text(columns):
    """The columns as they are kept or grouped by."""
    return ", ".join(columns)


def conditions_text(things):
    """The conditions or bounds, tuples of three, with their words."""
    return ", ".join([f"{first} {operator} {last}" for first, operator, last in things])


def _uses_text(uses):
    return ", ".join([f"{table} as {alias}" for alias, table in uses])


def _where_text(conditions):
    """The part for the conditions, with the blank before it; it is left out with its word if there are none."""
    return f" where {conditions_text(conditions)}" if conditions else ""
