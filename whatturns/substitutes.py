"""The tree of a form read with a template: columns that have a value, and columns that have the same parameter."""

from whatturns.templates import is_parameter
from whatturns.trees import names_to_try, names_tree, numbers_tree, tree_at_name


def substituted(tree, template):
    """The tree for the parameters of the template, from the tree for the rows of its table."""
    # From the last column to the first one, so that the levels above keep their depths.
    for depth in reversed(range(len(template))):
        first = template.index(template[depth])
        if not is_parameter(template[depth]):
            tree = _fixed(tree, depth, template[depth])
        elif first < depth:
            # There are at most two columns of one kind, so that the level of the first one is right above.
            tree = _tied(tree, first)
    return tree


def _fixed(tree, depth, value):
    """The tree without the level at the depth, whose column has this value."""
    if depth == 0:
        return _part_at(tree, value)
    # Below the others of a first name column the name of a second one may be told without being told above.
    names = [value] if isinstance(value, str) else []
    return _rebuilt(tree, names, lambda below: _fixed(below, depth - 1, value))


def _tied(tree, depth):
    """The tree without the level below the depth, whose column has the value of the column at the depth."""
    if depth > 0:
        return _rebuilt(tree, [], lambda below: _tied(below, depth - 1))
    if tree[0] == "numbers":
        ends = sorted({end for node in [tree, *tree[2]] for end in node[1]})
        values = [*ends, ends[-1] + 1 if ends else 0]
        return numbers_tree(ends, [_twice_at(tree, value) for value in values])
    others = tree[3]
    alike = others[3] if others[2] is None else others[2]
    return names_tree([(name, _twice_at(tree, name)) for name in names_to_try([tree])], None, alike)


def _rebuilt(tree, more_names, changed):
    """The tree with what the function makes of the trees below; more names that may be told there are given."""
    if tree[0] == "numbers":
        return numbers_tree(tree[1], [changed(below) for below in tree[2]])
    _, _, alike, others = tree
    names = sorted(set(names_to_try([tree]) + more_names))
    return names_tree([(name, changed(tree_at_name(tree, name))) for name in names],
                      None if alike is None else changed(alike), changed(others))


def _twice_at(tree, value):
    """What the tree has for rows that have this value in the first column and in the next one."""
    return _part_at(_part_at(tree, value), value)


def _part_at(tree, value):
    """What the tree has for rows that have this value in the first column."""
    if tree[0] == "names":
        return tree_at_name(tree, value)
    return tree[2][len([end for end in tree[1] if end < value])]
