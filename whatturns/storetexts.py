"""The text of a store, and a table of it as it is shown."""

from whatturns.errors import InvalidTable, InvalidText
from whatturns.tables import Table
from whatturns.values import is_number_word

_TABLE_WORDS = ("table", "names", "numbers", "key")


def table_line(table):
    """The line of a table in the text of a store."""
    parts = (table.name, _columns_word(table.names), _columns_word(table.numbers), _columns_word(table.key))
    return " ".join([f"{word} {part}" for word, part in zip(_TABLE_WORDS, parts)])


def row_line(row):
    """The line of a row in the text of a store."""
    return " ".join(["row", *[str(value) for value in row]])


def read_lines(text):
    """For each table line of the text of a store, its table and the list of the rows that the lines below it tell."""
    if not isinstance(text, str):
        raise InvalidText()
    found = []
    for line in text.split("\n"):
        words = line.split(" ")
        if words[0] == "row" and found:
            table, rows = found[-1]
            rows.append(read_row(words[1:], table))
        else:
            found.append((_read_table(words), []))
    return found


def shown_rows(table, rows):
    """A line for the columns and a line for each row, in columns of one width each."""
    lines = [table.columns, *[[str(value) for value in row] for row in rows]]
    widths = [max([len(line[place]) for line in lines]) for place in range(len(table.columns))]
    return "\n".join([_shown_line(line, widths, len(table.names)) for line in lines])


def _columns_word(columns):
    return ",".join(columns) if columns else "-"


def _read_table(words):
    """The table of the words of a table line."""
    if len(words) != 2 * len(_TABLE_WORDS) or tuple(words[::2]) != _TABLE_WORDS:
        raise InvalidText()
    name, names, numbers, key = words[1::2]
    try:
        return Table(name, _read_columns(names), _read_columns(numbers), _read_columns(key))
    except InvalidTable:
        raise InvalidText() from None


def _read_columns(word):
    return () if word == "-" else tuple(word.split(","))


def read_row(words, table):
    """The row of a table that the words behind the word row tell."""
    split = len(table.names)
    if not all([is_number_word(word) for word in words[split:]]):
        raise InvalidText()
    row = (*words[:split], *[int(word) for word in words[split:]])
    if not table.is_row(row):
        raise InvalidText()
    return row


def _shown_line(entries, widths, split):
    """One line: entries before the split stand left in their columns, the others right."""
    padded = []
    for place, entry in enumerate(entries):
        padded.append(entry.ljust(widths[place]) if place < split else entry.rjust(widths[place]))
    return "  ".join(padded).rstrip(" ")
