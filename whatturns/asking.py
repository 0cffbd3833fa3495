"""What is checked of questions that are passed together with a store or tables."""

from whatturns.errors import InvalidQuestion
from whatturns.questions import First, Groups, Select, Union

_MOST_USES = 2
_MOST_PARTS = 6


def is_question(thing):
    """Whether it is an object of one of the four classes of questions."""
    kinds = [isinstance(thing, Select), isinstance(thing, Union), isinstance(thing, First), isinstance(thing, Groups)]
    return any(kinds)


def check_question(question, tables):
    """Raise InvalidQuestion for any value that is no question for these tables."""
    if not is_question(question):
        raise InvalidQuestion()
    question.check(*tables)


def check_plain_select(question, tables):
    """Raise InvalidQuestion for any value that is no select of these tables about which all stores can be asked."""
    if not isinstance(question, Select):
        raise InvalidQuestion()
    question.check(*tables)
    size = len(question.where) + len(question.keep)
    if question.without or len(question.uses) > _MOST_USES or size > _MOST_PARTS:
        raise InvalidQuestion()


def copy_of(question):
    """The same question as an object of its own."""
    if isinstance(question, Select):
        return Select(question.uses, question.keep, question.where, question.without)
    if isinstance(question, Union):
        return Union(copy_of(question.first), copy_of(question.second))
    if isinstance(question, First):
        return First(copy_of(question.select), question.by, question.count, question.falling)
    return Groups(question.uses, question.by, question.where, question.without, question.least, question.greatest,
                  question.having)
