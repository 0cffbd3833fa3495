"""What the matches of a question keep, match by match."""

from whatturns.questions import First, Groups, Union
from whatturns.scopes import scope_of


def kept_rows(question, matches, tables):
    """For each of these matches the row of what it keeps; of a groups, the values by which it is grouped."""
    if isinstance(question, Union):
        spots = [_spots(question.first, tables), _spots(question.second, tables)]
        return [_values(spots[number], match) for number, match in matches]
    if isinstance(question, First):
        return kept_rows(question.select, matches, tables)
    told = _spots(question, tables)
    return [_values(told, match) for match in matches]


def _spots(question, tables):
    """The spots of what a select keeps, or of that by which a groups is grouped."""
    scope = scope_of(question.uses, tables)
    columns = question.by if isinstance(question, Groups) else question.keep
    return [scope[column] for column in columns]


def _values(spots, match):
    return tuple([spot.value_in(match) for spot in spots])
