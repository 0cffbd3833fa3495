"""The least choice of changes with which a wish for an answer is true."""

from whatturns.asking import check_question
from whatturns.errors import InvalidChange, InvalidQuestion
from whatturns.leastmatches import least_match
from whatturns.questions import Select, Union

_MOST_CHANGES = 4


def least_choice(question, store, menu, row=None):
    """(choice, bars): the least choice of the menu with which the row, or any row, is not in the answer, or None.

    The bars are (choice, match) for each lesser choice, with the least match that stands against it.
    """
    if not isinstance(question, Select) and not isinstance(question, Union):
        raise InvalidQuestion()
    check_question(question, store.tables)
    for change in menu:
        if not store.is_change(change):
            raise InvalidChange(change)
    bars = []
    choices = [((), store)]
    for length in range(_MOST_CHANGES + 1):
        for choice, made in choices:
            match = least_match(question, made, row)
            if match is None:
                return choice, tuple(bars)
            bars.append((choice, match))
        if length < _MOST_CHANGES:
            choices = _longer(choices, menu)
    return None, tuple(bars)


def _longer(choices, menu):
    """The choices with one more change, ascending if these are, each with the store in which its changes are made."""
    found = []
    for choice, made in choices:
        for number in range(choice[-1] + 1 if choice else 0, len(menu)):
            after = made.copy()
            after.do(menu[number])
            found.append(((*choice, number), after))
    return found
