"""The tree of a function by the plain words of point 13: the function is asked at rows, and no form is used."""

# Names that no test gives to a function: what a function says of them it says of all names that it does not tell apart.
ONE, OTHER = "spare", "unused"


class NaiveTree:
    """A function of the rows of a table that tells apart these names alone, and numbers of this range alone."""

    def __init__(self, table, function, names, numbers):
        self.table = table
        self.function = function
        self.names = sorted(names)
        self.numbers = numbers

    def tree(self):
        return self._below(())

    def told_for_the_row_twice_alone(self):
        """The names that the first of two name columns tells only since the row with the name twice is another one."""
        return [name for name in self.names if self._others_fail_at(name) == [name]]

    def _below(self, row):
        """The tree for the columns behind the beginning of a row."""
        if len(row) == len(self.table.columns):
            return ("leaf", self.function(row))
        if len(row) >= len(self.table.names):
            return self._numbers(row)
        if len(row) == 1:
            return self._second(row[0])
        if len(self.table.names) == 1:
            others = self._below((ONE,))
            trees = [(name, self._below((name,))) for name in self.names]
            return ("names", tuple(pair for pair in trees if pair[1] != others), None, others)
        told = tuple((name, self._second(name)) for name in self.names if self._others_fail_at(name))
        return ("names", told, None, self._second(ONE))

    def _second(self, first):
        """The tree at the second name column, below a name of the first one."""
        others = self._below((first, OTHER))
        trees = [(name, self._below((first, name))) for name in self.names]
        same = self._below((ONE, ONE)) if first == ONE else others
        return ("names", tuple(pair for pair in trees if pair[1] != others), None if same == others else same, others)

    def _others_fail_at(self, first):
        """The names at the second column with which the others of the first one do not say what is so for this name."""
        _, told, same, others = self._second(ONE)
        says = {name: others for name in [*self.names, OTHER]}
        if same is not None:
            says[first] = same
        says.update(told)
        return [name for name in says if says[name] != self._below((first, name))]

    def _numbers(self, row):
        trees = [self._below((*row, number)) for number in self.numbers]
        ends = [at for at in range(len(trees) - 1) if trees[at] != trees[at + 1]]
        return ("numbers", tuple(self.numbers[at] for at in ends), tuple(trees[at] for at in [*ends, -1]))
