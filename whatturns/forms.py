"""Forms: functions of the rows of a table, each told by its one tree."""

from whatturns.errors import InvalidForm
from whatturns.paths import paths_of
from whatturns.tables import is_name
from whatturns.treechecks import is_leaf, is_tree
from whatturns.trees import compared_tree, equal_names_tree, has_bools, leaf_at, leaves_of, merged, tree_below
from whatturns.values import is_number, same

_NAME_OPERATORS = ("=", "!=")
_NUMBER_OPERATORS = ("=", "!=", "<=", ">=")


class Form:
    """A function of the rows of a table; its tree tells the leaf at each row."""

    def __init__(self, table, tree):
        self.table = table
        self.tree = tree

    @staticmethod
    def constant(table, leaf):
        """The form with this leaf at each row."""
        if not is_leaf(leaf):
            raise InvalidForm()
        return Form(table, tree_below(table, 0, leaf))

    @staticmethod
    def compare(table, column, operator, value):
        """The form of bools: whether the column of a row is so."""
        columns = table.columns
        if not isinstance(column, str) or column not in columns or not isinstance(operator, str):
            raise InvalidForm()
        place = columns.index(column)
        if place >= len(table.names):
            fits = operator in _NUMBER_OPERATORS and is_number(value)
        else:
            fits = operator in _NAME_OPERATORS and (is_name(value) or _is_other_column(value, table, place))
        if not fits:
            raise InvalidForm()
        if place < len(table.names) and not is_name(value):
            return Form(table, equal_names_tree(table, operator))
        return Form(table, compared_tree(table, place, operator, value))

    @staticmethod
    def read(table, tree):
        """The form with this tree."""
        if not is_tree(tree, table):
            raise InvalidForm()
        return Form(table, tree)

    def joined(self, function, *others):
        """The form with what the function returns for the tuple of the leaves of this form and the others."""
        together = merged([self.tree, *[other.tree for other in others]], None)
        results = {(leaves,): function(leaves) for leaves in leaves_of(together)}
        return Form(self.table, merged([together], results))

    def complement(self):
        """The form with the other bool at each row."""
        if not has_bools(self.tree):
            raise InvalidForm()
        return Form(self.table, merged([self.tree], {(True,): False, (False,): True}))

    def leaves(self):
        """The leaves, ascending."""
        return leaves_of(self.tree)

    def example(self, leaf):
        """A row with this leaf, or None."""
        for _, row, found in paths_of(self.table, self.tree):
            if same(found, leaf):
                return row
        return None

    def pieces(self):
        """Yield (conditions, leaf) for each path of the tree, from left to right."""
        for conditions, _, leaf in paths_of(self.table, self.tree):
            yield conditions, leaf

    def __call__(self, row):
        return leaf_at(self.tree, row)

    def __and__(self, other):
        results = {(True, True): True, (True, False): False, (False, True): False, (False, False): False}
        return Form(self.table, merged(_trees_of_bools(self, other), results))

    def __or__(self, other):
        results = {(True, True): True, (True, False): True, (False, True): True, (False, False): False}
        return Form(self.table, merged(_trees_of_bools(self, other), results))

    def __sub__(self, other):
        results = {(True, True): False, (True, False): True, (False, True): False, (False, False): False}
        return Form(self.table, merged(_trees_of_bools(self, other), results))

    def __eq__(self, other):
        # Leaves are of one kind in a form, so that one of them tells a form of bools from one of integers.
        return (isinstance(other, Form) and self.table == other.table and self.tree == other.tree
                and has_bools(self.tree) == has_bools(other.tree))


def _is_other_column(value, table, place):
    """Whether it is the other one of two name columns, with a point in front."""
    return len(table.names) == 2 and isinstance(value, str) and value == f".{table.names[1 - place]}"


def _trees_of_bools(one, other):
    """The trees of two forms of bools of one table."""
    if not isinstance(other, Form) or one.table != other.table:
        raise InvalidForm()
    if not has_bools(one.tree) or not has_bools(other.tree):
        raise InvalidForm()
    return [one.tree, other.tree]
