"""Reading the commands of a console."""

from whatturns.errors import InvalidCommand, InvalidText
from whatturns.readers import read_question
from whatturns.storetexts import read_row
from whatturns.tables import table_named

_CHANGES = ("insert", "delete", "replace")
_ASKING = ("ask", "stand", "must")


def read_command(thing, tables):
    """The word of a command for these tables, "change" for a change, and then what it is about, as a list."""
    if not isinstance(thing, str):
        raise InvalidCommand()
    words = thing.split(" ")
    try:
        return _read_words(words, tables)
    except InvalidText:
        raise InvalidCommand() from None


def _read_words(words, tables):
    word, *others = words
    if word in _CHANGES:
        return ["change", _read_change(words, tables)]
    if word in _ASKING:
        return [word, read_question(" ".join(others))]
    if word == "turns" and "/" in others:
        bar = others.index("/")
        return [word, _read_change(others[:bar], tables), read_question(" ".join(others[bar + 1:]))]
    if word == "rows" and len(others) == 1 and table_named(others[0], tables) is not None:
        return [word, others[0]]
    if word == "store" and not others:
        return [word]
    raise InvalidCommand()


def _read_change(words, tables):
    """The change that the words tell."""
    table = table_named(words[1], tables) if len(words) > 1 else None
    if table is None or words[0] not in _CHANGES:
        raise InvalidCommand()
    if words[0] != "replace":
        return (words[0], table.name, read_row(words[2:], table))
    # Names may be the word by, so that it is looked for at its place alone.
    place = 2 + len(table.columns)
    if words[place:place + 1] != ["by"]:
        raise InvalidCommand()
    return ("replace", table.name, read_row(words[2:place], table), read_row(words[place + 1:], table))
