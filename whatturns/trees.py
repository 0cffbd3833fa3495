"""The trees of forms: each function of the rows of a table has exactly one, and what is here makes that one."""

from whatturns.values import compares


def tree_below(table, place, leaf):
    """The tree for the columns from the place on, with one leaf everywhere."""
    return _above(table, place, len(table.columns), ("leaf", leaf))


def compared_tree(table, place, operator, value):
    """The tree of bools: whether the column at the place is so, compared with a name or an integer."""
    yes, no = tree_below(table, place + 1, True), tree_below(table, place + 1, False)
    if place < len(table.names):
        chosen, others = (yes, no) if operator == "=" else (no, yes)
        tree = names_tree([(value, chosen)], None, others)
    else:
        # At the value itself and on its two sides a comparison may be different, and nowhere else.
        trees = [yes if compares(near, operator, value) else no for near in (value - 1, value, value + 1)]
        tree = numbers_tree((value - 1, value), trees)
    return _above(table, 0, place, tree)


def equal_names_tree(table, operator):
    """The tree of bools: whether the two name columns are the same, or not the same."""
    alike, apart = tree_below(table, 2, operator == "="), tree_below(table, 2, operator != "=")
    return _above(table, 0, 1, names_tree([], alike, apart))


def _above(table, start, end, tree):
    """The tree below a level for each column from the place start on up to the place end, which all do not matter."""
    for place in reversed(range(start, end)):
        tree = names_tree([], None, tree) if place < len(table.names) else numbers_tree((), [tree])
    return tree


def names_tree(candidates, alike, others):
    """The tree at a name column, of which the candidates (name, tree), ascending, may or may not be told.

    The tree alike, for the name in the first of two columns, is None where there is no such column above.
    """
    told = tuple([(name, tree) for name, tree in candidates if tree != read_with(others, name)])
    return ("names", told, None if alike == others else alike, others)


def numbers_tree(ends, trees):
    """The tree at a number column, of which neighbours may be the same."""
    kept_ends = []
    kept = [trees[0]]
    for end, tree in zip(ends, trees[1:]):
        if tree != kept[-1]:
            kept_ends.append(end)
            kept.append(tree)
    return ("numbers", tuple(kept_ends), tuple(kept))


def read_with(tree, name):
    """The tree for the others at a name column, read with this name there."""
    if tree[0] != "names" or tree[2] is None:
        return tree
    _, told, alike, others = tree
    if name in [word for word, _ in told]:
        return ("names", told, None, others)
    before = [pair for pair in told if pair[0] < name]
    after = [pair for pair in told if pair[0] > name]
    return ("names", (*before, (name, alike), *after), None, others)


def tree_at_name(tree, name):
    """What a tree at a name column has for this name there."""
    for word, below in tree[1]:
        if word == name:
            return below
    return read_with(tree[3], name)


def merged(trees, results):
    """The tree that has at each row the result for the tuple of the leaves of the trees there.

    The results are a dict by these tuples; if they are None, the tuple itself is the leaf.
    """
    kind = trees[0][0]
    if kind == "names":
        return _merged_names(trees, results)
    if kind == "numbers":
        return _merged_numbers(trees, results)
    leaves = tuple([leaf for _, leaf in trees])
    return ("leaf", leaves if results is None else results[leaves])


def _merged_names(trees, results):
    others = merged([tree[3] for tree in trees], results)
    alike = None
    if any([tree[2] is not None for tree in trees]):
        alike = merged([tree[3] if tree[2] is None else tree[2] for tree in trees], results)
    names = names_to_try(trees)
    return names_tree([(name, merged([tree_at_name(tree, name) for tree in trees], results)) for name in names],
                      alike, others)


def names_to_try(trees):
    """The names that a tree made from these trees at a name column may have to tell."""
    # A row with one name twice counts as told where the name is told at the second column, and as alike elsewhere. If
    # the trees, or the tree that is made, differ in this, the name may have to be told at the first column.
    below = [tree[3] for tree in trees if tree[3][0] == "names"]
    return sorted({name for tree in [*trees, *below] for name, _ in tree[1]})


def _merged_numbers(trees, results):
    ends = sorted({end for tree in trees for end in tree[1]})
    places = [0 for _ in trees]
    parts = [merged([tree[2][0] for tree in trees], results)]
    for end in ends:
        places = [_place_after(tree, place, end) for tree, place in zip(trees, places)]
        parts.append(merged([tree[2][place] for tree, place in zip(trees, places)], results))
    return numbers_tree(ends, parts)


def _place_after(tree, place, end):
    """The place of the number above the end, of a tree that has the numbers up to the end at this place."""
    return place + 1 if place < len(tree[1]) and tree[1][place] == end else place


def leaf_at(tree, row):
    """The leaf at a row."""
    before = None
    for value in row:
        if tree[0] == "names":
            told = [below for name, below in tree[1] if name == value]
            rest = tree[3] if tree[2] is None or value != before else tree[2]
            tree = told[0] if told else rest
            before = value
        else:
            tree = tree[2][len([end for end in tree[1] if end < value])]
    return tree[1]


def subtrees(tree):
    """The trees right below, from left to right: told names, the same name, the others; or those of the numbers."""
    if tree[0] == "leaf":
        return ()
    if tree[0] == "numbers":
        return tree[2]
    _, told, alike, others = tree
    middle = [] if alike is None else [alike]
    return (*[below for _, below in told], *middle, others)


def leaves_of(tree):
    """The leaves, ascending."""
    if tree[0] == "leaf":
        return (tree[1],)
    return tuple(sorted({leaf for below in subtrees(tree) for leaf in leaves_of(below)}))


def has_bools(tree):
    """Whether the leaves are bools."""
    while tree[0] != "leaf":
        tree = subtrees(tree)[-1]
    return isinstance(tree[1], bool)
