"""Reading the text of a question; a text is judged by its form alone."""

from whatturns.errors import InvalidText
from whatturns.questions import First, Groups, Select, Union
from whatturns.tables import is_name
from whatturns.values import is_number_word

_OPERATORS = ("=", "!=", "<=", ">=")
_BOUND_OPERATORS = ("<=", ">=")
_MEASURES = ("count", "least", "greatest")


class Words:
    """The words of a text that are still to be read."""

    def __init__(self, words):
        self.words = words
        self.at = 0

    def ended(self):
        """Whether all words are read."""
        return self.at == len(self.words)

    def upcoming(self):
        """The next word, or an empty one at the end."""
        return "" if self.ended() else self.words[self.at]

    def take(self, count):
        """Read so many words."""
        taken = self.words[self.at:self.at + count]
        if len(taken) < count:
            raise InvalidText()
        self.at = self.at + count
        return taken

    def passes(self, word):
        """Whether the next word is this one, which is then read."""
        if self.upcoming() != word:
            return False
        self.at = self.at + 1
        return True

    def expect(self, word):
        """Read this word."""
        if not self.passes(word):
            raise InvalidText()

    def take_items(self, size):
        """Read items of so many words each, as long as a comma stands behind an item."""
        items = []
        more = True
        while more:
            taken = self.take(size)
            more = taken[-1].endswith(",")
            items.append([*taken[:-1], taken[-1].removesuffix(",")])
        return items


def read_question(text):
    """The question with this text."""
    if not isinstance(text, str):
        raise InvalidText()
    words = Words(text.split(" "))
    uses, where, without = _read_body(words)
    if words.passes("group"):
        question = _read_groups(words, uses, where, without)
    else:
        question = _read_end(words, _read_kept(words, uses, where, without))
    if not words.ended():
        raise InvalidText()
    return question


def _read_body(words):
    """The uses, the conditions and the withouts of a select or a groups."""
    words.expect("from")
    uses, where = _read_uses(words), _read_where(words)
    without = []
    while words.passes("without"):
        inner = _read_uses(words)
        without.append((inner, _read_where(words)))
    return uses, where, tuple(without)


def _read_kept(words, uses, where, without):
    words.expect("keep")
    return Select(uses, _read_columns(words), where, without)


def _read_end(words, select):
    """What the select is the beginning of: a union, a first, or nothing but itself."""
    if words.passes("or"):
        uses, where, without = _read_body(words)
        return Union(select, _read_kept(words, uses, where, without))
    if not words.passes("first"):
        return select
    count = _read_integer(words.take(1)[0])
    if count < 1:
        raise InvalidText()
    words.expect("by")
    by = _read_column(words.take(1)[0])
    return First(select, by, count, words.passes("falling"))


def _read_groups(words, uses, where, without):
    """The groups with this body, from behind the word group on."""
    # No word of the language has a point in it, so that only a column can follow here.
    by = _read_columns(words) if "." in words.upcoming() else ()
    least = _read_column(words.take(1)[0]) if words.passes("least") else None
    greatest = _read_column(words.take(1)[0]) if words.passes("greatest") else None
    having = ()
    if words.passes("having"):
        having = tuple([_read_bound(item) for item in words.take_items(3)])
    return Groups(uses, by, where, without, least, greatest, having)


def _read_uses(words):
    return tuple([_read_use(item) for item in words.take_items(3)])


def _read_use(item):
    table, word, alias = item
    if word != "as" or not is_name(table) or not is_name(alias):
        raise InvalidText()
    return alias, table


def _read_where(words):
    """The conditions, none if the word where does not follow."""
    if not words.passes("where"):
        return ()
    return tuple([_read_condition(item) for item in words.take_items(3)])


def _read_condition(item):
    column, operator, operand = item
    if operator not in _OPERATORS:
        raise InvalidText()
    return _read_column(column), operator, _read_operand(operand)


def _read_operand(word):
    if is_name(word) or _is_column(word):
        return word
    return _read_integer(word)


def _read_bound(item):
    what, operator, limit = item
    if what not in _MEASURES or operator not in _BOUND_OPERATORS:
        raise InvalidText()
    return what, operator, _read_integer(limit)


def _read_columns(words):
    return tuple([_read_column(item[0]) for item in words.take_items(1)])


def _read_column(word):
    if not _is_column(word):
        raise InvalidText()
    return word


def _is_column(word):
    """Whether the word is two names with a point between them."""
    parts = word.split(".")
    return len(parts) == 2 and all([is_name(part) for part in parts])


def _read_integer(word):
    if not is_number_word(word):
        raise InvalidText()
    return int(word)
