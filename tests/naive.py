"""Answers and matches by the plain words of points 7 to 11: every tuple of rows is tried."""

import itertools

from whatturns.questions import First, Select, Union


def value_of(column, rows, tables):
    """The value of ALIAS.COLUMN, of a dict of rows by aliases."""
    alias, name = column.split(".")
    return rows[alias][tables[alias].columns.index(name)]


def holds(condition, rows, tables):
    column, operator, operand = condition
    one = value_of(column, rows, tables)
    other = value_of(operand, rows, tables) if isinstance(operand, str) and "." in operand else operand
    return {"=": one == other, "!=": one != other, "<=": operator == "<=" and one <= other,
            ">=": operator == ">=" and one >= other}[operator]


def choices(uses, store):
    return itertools.product(*[store.rows_of(name) for _, name in uses])


def by_alias(uses, rows):
    return {alias: row for (alias, _), row in zip(uses, rows)}


def naive_tables(question, store):
    inner = [use for uses, _ in question.without for use in uses]
    return {alias: store.table_of(name) for alias, name in [*question.uses, *inner]}


def naive_matches(question, store):
    if isinstance(question, Union):
        parts = (question.first, question.second)
        return tuple((place, match) for place in (0, 1) for match in naive_matches(parts[place], store))
    if isinstance(question, First):
        return naive_matches(question.select, store)
    tables = naive_tables(question, store)
    found = []
    for match in choices(question.uses, store):
        rows = by_alias(question.uses, match)
        if not all(holds(condition, rows, tables) for condition in question.where):
            continue
        excluded = any(
            all(holds(condition, {**rows, **by_alias(uses, others)}, tables) for condition in conditions)
            for uses, conditions in question.without for others in choices(uses, store))
        if not excluded:
            found.append(match)
    return tuple(sorted(found))


def naive_answer(question, store):
    if isinstance(question, Union):
        return tuple(sorted({*naive_answer(question.first, store), *naive_answer(question.second, store)}))
    if isinstance(question, First):
        return naive_first(question, naive_answer(question.select, store))
    tables = naive_tables(question, store)
    matches = [by_alias(question.uses, match) for match in naive_matches(question, store)]
    if isinstance(question, Select):
        return tuple(sorted({tuple(value_of(column, rows, tables) for column in question.keep) for rows in matches}))
    groups = {}
    for rows in matches:
        groups.setdefault(tuple(value_of(column, rows, tables) for column in question.by), []).append(rows)
    found = [naive_group(question, values, groups[values], tables) for values in groups]
    return tuple(sorted(row for row in found if row is not None))


def naive_first(question, rows):
    place = question.select.keep.index(question.by)
    line = sorted((row[place] for row in rows), reverse=question.falling)
    if len(line) <= question.count:
        return rows
    last = line[question.count - 1]
    return tuple(row for row in rows if (row[place] >= last if question.falling else row[place] <= last))


def naive_group(question, values, group, tables):
    told = {"count": len(group)}
    if question.least is not None:
        told["least"] = min(value_of(question.least, rows, tables) for rows in group)
    if question.greatest is not None:
        told["greatest"] = max(value_of(question.greatest, rows, tables) for rows in group)
    for what, operator, limit in question.having:
        if told[what] > limit if operator == "<=" else told[what] < limit:
            return None
    return (*values, *told.values())
