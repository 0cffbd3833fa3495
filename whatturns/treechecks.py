"""Whether a value is the tree of a form."""

from whatturns.tables import is_name
from whatturns.trees import read_with, subtrees
from whatturns.values import is_number


def is_leaf(thing):
    """Whether it is a bool, an integer, or an ascending tuple of integers."""
    return isinstance(thing, bool) or is_number(thing) or _are_ascending(thing)


def is_tree(thing, table):
    """Whether it is the one tree of a function of the rows of the table."""
    return _is_node(thing, table, 0, False) and len(set(_kinds(thing))) == 1


def _are_ascending(thing):
    """Whether it is an ascending tuple of integers."""
    if not isinstance(thing, tuple) or not all([is_number(part) for part in thing]):
        return False
    return list(thing) == sorted(set(thing))


def _kinds(tree):
    """For each path, the kind of its leaf."""
    if tree[0] == "leaf":
        if isinstance(tree[1], bool):
            return ["bool"]
        return ["number"] if is_number(tree[1]) else ["numbers"]
    return [kind for below in subtrees(tree) for kind in _kinds(below)]


def _is_node(thing, table, place, below_others):
    """Whether it is a tree for the columns from the place on, apart from the kinds of its leaves."""
    if not isinstance(thing, tuple):
        return False
    if place == len(table.columns):
        return len(thing) == 2 and thing[0] == "leaf" and is_leaf(thing[1])
    if place < len(table.names):
        return len(thing) == 4 and thing[0] == "names" and _is_names_node(thing, table, place, below_others)
    return len(thing) == 3 and thing[0] == "numbers" and _is_numbers_node(thing, table, place)


def _is_names_node(node, table, place, below_others):
    _, told, alike, others = node
    if not _is_node(others, table, place + 1, place == 0):
        return False
    if alike is not None and not (below_others and _is_node(alike, table, place + 1, False) and alike != others):
        return False
    if not isinstance(told, tuple) or not all([_is_told(pair) for pair in told]):
        return False
    names = [name for name, _ in told]
    if names != sorted(set(names)) or not all([_is_node(below, table, place + 1, False) for _, below in told]):
        return False
    return all([below != read_with(others, name) for name, below in told])


def _is_told(thing):
    """Whether it is a pair with a name in front."""
    return isinstance(thing, tuple) and len(thing) == 2 and is_name(thing[0])


def _is_numbers_node(node, table, place):
    _, ends, trees = node
    if not _are_ascending(ends) or not isinstance(trees, tuple) or len(trees) != len(ends) + 1:
        return False
    if not all([_is_node(below, table, place + 1, False) for below in trees]):
        return False
    return all([left != right for left, right in zip(trees, trees[1:])])
