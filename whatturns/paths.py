"""The paths of a tree, from left to right, with the conditions on the way and a row that takes it."""

from whatturns.trees import subtrees

_LETTERS = "abcdefghijklmnopqrstuvwxyz"


def paths_of(table, tree):
    """A tuple (conditions, row, leaf) for each path."""
    spare = _names_beside(tree)
    found = [((), (), tree)]
    for place in range(len(table.columns)):
        found = [((*conditions, *more), (*row, row[0] if value is None else value), below)
                 for conditions, row, above in found
                 for more, value, below in _branches(table, place, above, spare)]
    return [(conditions, row, below[1]) for conditions, row, below in found]


def _branches(table, place, tree, spare):
    """(conditions, value, subtree) for each branch at the column; the value None is that of the first column."""
    column = table.columns[place]
    if tree[0] == "names":
        told = [(((column, "=", name),), name, below) for name, below in tree[1]]
        return told + _untold_branches(table, place, tree, spare)
    ends = tree[1]
    lower = [(), *[((column, ">=", end + 1),) for end in ends]]
    upper = [*[((column, "<=", end),) for end in ends], ()]
    values = [*ends, ends[-1] + 1 if ends else 0]
    return [(least + most, value, below) for least, most, value, below in zip(lower, upper, values, tree[2])]


def _untold_branches(table, place, tree, spare):
    """The branches for the name of the first column, if there is one, and for the others."""
    _, told, alike, others = tree
    column = table.columns[place]
    apart = tuple([(column, "!=", name) for name, _ in told])
    if alike is None:
        return [(apart, spare[place], others)]
    first = f".{table.columns[0]}"
    return [((*apart, (column, "=", first)), None, alike), ((*apart, (column, "!=", first)), spare[place], others)]


def _names_beside(tree):
    """Two names that the tree does not tell."""
    told = _told_names(tree)
    return [name for name in [name_of(number) for number in range(len(told) + 2)] if name not in told]


def _told_names(tree):
    own = [name for name, _ in tree[1]] if tree[0] == "names" else []
    return sorted({name for names in [own, *[_told_names(below) for below in subtrees(tree)]] for name in names})


def name_of(number):
    """A name for each number."""
    name = _LETTERS[number % 26]
    while number >= 26:
        number = number // 26 - 1
        name = _LETTERS[number % 26] + name
    return name
