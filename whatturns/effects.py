"""What a change does to an answer, and why."""

from whatturns.asking import check_question
from whatturns.differences import differences
from whatturns.errors import InvalidQuestion
from whatturns.keeping import kept_rows
from whatturns.matching import Body, lengthened
from whatturns.questions import Select, Union


def effect(question, store, change):
    """The rows that are in the answer after the change alone, and those that are in it before the change alone."""
    check_question(question, store.tables)
    after = _changed(store, change)
    return differences(question.answer_in(store), question.answer_in(after))


def reasons(question, store, change):
    """The rows that come, each with its least match, and those that go, each with its least match and the cause."""
    if not isinstance(question, Select) and not isinstance(question, Union):
        raise InvalidQuestion()
    check_question(question, store.tables)
    after = _changed(store, change)
    old, new = _least_matches(question, store), _least_matches(question, after)
    came, gone = differences(sorted(list(old)), sorted(list(new)))
    return (tuple([(row, new[row]) for row in came]),
            tuple([(row, old[row], _cause(question, old[row], after)) for row in gone]))


def _changed(store, change):
    """A copy of the store in which the change is made, if it is possible."""
    after = store.copy()
    after.do(change)
    return after


def _least_matches(question, store):
    """The least match for each row of the answer."""
    matches = question.matches_in(store)
    least = {}
    for row, match in zip(kept_rows(question, matches, store.tables), matches):
        least.setdefault(row, match)
    return least


def _cause(question, match, after):
    """Why a match of the question is none any more."""
    if isinstance(question, Union):
        number, rows = match
        return _select_cause(question.second if number else question.first, rows, after)
    return _select_cause(question, match, after)


def _select_cause(select, rows, after):
    """The first use whose row is not there any more, otherwise the first without that excludes the rows."""
    for place, (_, name) in enumerate(select.uses):
        if rows[place] not in after.rows_of(name):
            return ("row", place)
    body = Body(select.uses, select.where, select.without, after.tables)
    excluding = [lengthened(rows, part.uses, part.ready, after) for part in body.withouts]
    number = min([number for number, found in enumerate(excluding) if found])
    return ("without", number, excluding[number][0][len(rows):])
