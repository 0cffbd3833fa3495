"""Grids: finitely many cells for the infinitely many rows of a table, and sets of cells as the bits of an integer.

In a cell are the rows that compare in the same way with all values that matter. A cell has a name that matters, or any
other name, at each name column, and a range without ends inside at each number column. If it matters whether the two
name columns are the same, there is one more place at the second one: for the name of the first, one of the others.
"""

from whatturns.trees import names_tree, numbers_tree
from whatturns.values import compares


class Grid:
    """The cells of a table for the values that matter at each column."""

    def __init__(self, table, values, linked):
        self.width = len(table.names)
        self.linked = linked
        self.marks = [sorted(set(here)) for here in values[:self.width]]
        self.marks.extend([_ends(here) for here in values[self.width:]])
        self.inside = [_names_inside(here) if at < self.width else _numbers_inside(here)
                       for at, here in enumerate(self.marks)]
        if linked:
            self.inside[1].append(None)
        self.strides = [1]
        for values_inside in reversed(self.inside):
            self.strides.insert(0, self.strides[0] * len(values_inside))
        self.size = self.strides.pop(0)
        self.full = (1 << self.size) - 1
        self._tests = {}
        self._trees = {}

    def test(self, at, operator, value):
        """The cells whose rows have a column that compares so with the value."""
        key = (at, operator, value)
        if key not in self._tests:
            chosen = [place for place, inside in enumerate(self.inside[at]) if compares(inside, operator, value)]
            self._tests[key] = self._spread(at, chosen)
        return self._tests[key]

    def test_names(self, operator):
        """The cells whose rows have the same name in both name columns, or not the same."""
        if operator not in self._tests:
            last = len(self.inside[1]) - 1
            alike = self._spread(0, [len(self.marks[0])]) & self._spread(1, [last])
            for name in self.marks[0]:
                alike = alike | self.test(0, "=", name) & self.test(1, "=", name)
            self._tests["="] = alike
            self._tests["!="] = self.full ^ alike
        return self._tests[operator]

    def row_cells(self, row, places):
        """The cells whose rows have the values of this row at these places."""
        cells = self.full
        for at in places:
            cells = cells & self.test(at, "=", row[at])
        return cells

    def tree_of(self, cells):
        """The tree of the form that is true in these cells alone."""
        return self._tree(0, cells, False)

    def _spread(self, at, chosen):
        """The cells at the chosen places of a column."""
        stride, count = self.strides[at], len(self.inside[at])
        ones = (1 << stride) - 1
        cells, width = 0, stride * count
        for place in chosen:
            cells = cells | ones << place * stride
        return repeated(cells, width, self.size // width)

    def _tree(self, at, cells, below_others):
        """The tree of the columns from a place on, in the cells of one part of the grid."""
        if at == len(self.inside):
            return ("leaf", cells == 1)
        key = (at, cells, below_others)
        if key not in self._trees:
            stride, count = self.strides[at], len(self.inside[at])
            ones = (1 << stride) - 1
            parts = [cells >> place * stride & ones for place in range(count)]
            self._trees[key] = self._names(at, parts, below_others) if at < self.width else self._numbers(at, parts)
        return self._trees[key]

    def _names(self, at, parts, below_others):
        marks = self.marks[at]
        others = self._tree(at + 1, parts[len(marks)], at == 0)
        alike = None
        if below_others and self.linked:
            alike = self._tree(at + 1, parts[-1], False)
        return names_tree([(name, self._tree(at + 1, part, False)) for name, part in zip(marks, parts)], alike, others)

    def _numbers(self, at, parts):
        return numbers_tree(self.marks[at], [self._tree(at + 1, part, False) for part in parts])


def repeated(cells, width, times):
    """As many copies of the cells, each so wide, side by side."""
    full = (1 << width * times) - 1
    done = 1
    while done < times:
        cells = cells | cells << done * width
        done = done * 2
    return cells & full


def _ends(numbers):
    """The ends of the ranges among which these numbers and their neighbours are told apart."""
    return sorted({end for number in numbers for end in (number - 1, number)})


def _names_inside(marks):
    """The names, and None for all others."""
    return [*marks, None]


def _numbers_inside(ends):
    """A number of each range."""
    return [*ends, ends[-1] + 1 if ends else 0]
