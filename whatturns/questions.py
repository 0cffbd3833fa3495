"""Questions: selects, unions, firsts and groups, with their answers, matches and texts."""

from whatturns.errors import InvalidQuestion
from whatturns.matching import matches_of
from whatturns.scopes import are_columns, is_body, is_name_column, is_number_column, scope_of
from whatturns.values import compares, is_number, same
from whatturns.wording import body_text, columns_text, conditions_text

_MOST_KEPT = 4
_MOST_BY = 2


class Question:
    """What the four kinds of questions have in common; it is not created itself."""

    def fits(self, *tables):
        """Whether check raises nothing for these tables."""
        try:
            self.check(*tables)
        except InvalidQuestion:
            return False
        return True


class Select(Question):
    """A question for the kept values of all matches."""

    def __init__(self, uses, keep, where=(), without=()):
        self.uses = uses
        self.keep = keep
        self.where = where
        self.without = without

    def check(self, *tables):
        """Raise InvalidQuestion if the arguments are not those of a select for these tables."""
        if not is_body(self.uses, self.where, self.without, tables):
            raise InvalidQuestion()
        if not are_columns(self.keep, 1, _MOST_KEPT, scope_of(self.uses, tables)):
            raise InvalidQuestion()

    def numeric_columns(self, tables):
        """For each kept column, whether it is a number column."""
        scope = scope_of(self.uses, tables)
        return [scope[column].numeric for column in self.keep]

    def kept_of(self, matches, tables):
        """The rows of kept values of the matches, ascending."""
        scope = scope_of(self.uses, tables)
        spots = [scope[column] for column in self.keep]
        return tuple(sorted({tuple([spot.value_in(match) for spot in spots]) for match in matches}))

    def answer_in(self, store):
        """The answer in the store."""
        return self.kept_of(self.matches_in(store), store.tables)

    def matches_in(self, store):
        """The matches in the store, ascending."""
        tables = store.tables
        self.check(*tables)
        return matches_of(self.uses, self.where, self.without, store)

    def text(self):
        """The text of the question."""
        return f"{body_text(self.uses, self.where, self.without)} keep {columns_text(self.keep)}"

    def __eq__(self, other):
        return isinstance(other, Select) and same(
            (self.uses, self.keep, self.where, self.without),
            (other.uses, other.keep, other.where, other.without))


class Union(Question):
    """A question for the answers of two selects together."""

    def __init__(self, first, second):
        self.first = first
        self.second = second

    def check(self, *tables):
        """Raise InvalidQuestion if the arguments are not those of a union for these tables."""
        for part in (self.first, self.second):
            if not isinstance(part, Select):
                raise InvalidQuestion()
            part.check(*tables)
        if self.first.numeric_columns(tables) != self.second.numeric_columns(tables):
            raise InvalidQuestion()

    def answer_in(self, store):
        """The answer in the store."""
        tables = store.tables
        self.check(*tables)
        return tuple(sorted(set(self.first.answer_in(store) + self.second.answer_in(store))))

    def matches_in(self, store):
        """The matches in the store: those of the first select with 0, then those of the second one with 1."""
        tables = store.tables
        self.check(*tables)
        firsts = [(0, match) for match in self.first.matches_in(store)]
        return (*firsts, *[(1, match) for match in self.second.matches_in(store)])

    def text(self):
        """The text of the question."""
        return f"{self.first.text()} or {self.second.text()}"

    def __eq__(self, other):
        return isinstance(other, Union) and same((self.first, self.second), (other.first, other.second))


class First(Question):
    """A question for the first rows of the answer of a select, by a kept number, with those that tie."""

    def __init__(self, select, by, count, falling=False):
        self.select = select
        self.by = by
        self.count = count
        self.falling = falling

    def check(self, *tables):
        """Raise InvalidQuestion if the arguments are not those of a first for these tables."""
        if not isinstance(self.select, Select):
            raise InvalidQuestion()
        self.select.check(*tables)
        if not is_number_column(self.by, scope_of(self.select.uses, tables)) or self.by not in self.select.keep:
            raise InvalidQuestion()
        if not is_number(self.count) or self.count < 1 or not isinstance(self.falling, bool):
            raise InvalidQuestion()

    def answer_in(self, store):
        """The answer in the store."""
        tables = store.tables
        self.check(*tables)
        rows = self.select.answer_in(store)
        if len(rows) <= self.count:
            return rows
        place = self.select.keep.index(self.by)
        numbers = sorted([row[place] for row in rows])
        if self.falling:
            return tuple([row for row in rows if row[place] >= numbers[-self.count]])
        return tuple([row for row in rows if row[place] <= numbers[self.count - 1]])

    def matches_in(self, store):
        """The matches in the store: those of the select."""
        tables = store.tables
        self.check(*tables)
        return self.select.matches_in(store)

    def text(self):
        """The text of the question."""
        end = " falling" if self.falling else ""
        return f"{self.select.text()} first {self.count} by {self.by}{end}"

    def __eq__(self, other):
        return isinstance(other, First) and same(
            (self.select, self.by, self.count, self.falling),
            (other.select, other.by, other.count, other.falling))


class Groups(Question):
    """A question for the matches counted by groups, with the least and the greatest number of each."""

    def __init__(self, uses, by=(), where=(), without=(), least=None, greatest=None, having=()):
        self.uses = uses
        self.by = by
        self.where = where
        self.without = without
        self.least = least
        self.greatest = greatest
        self.having = having

    def check(self, *tables):
        """Raise InvalidQuestion if the arguments are not those of a groups for these tables."""
        if not is_body(self.uses, self.where, self.without, tables):
            raise InvalidQuestion()
        scope = scope_of(self.uses, tables)
        if not are_columns(self.by, 0, _MOST_BY, scope) or not all([is_name_column(part, scope) for part in self.by]):
            raise InvalidQuestion()
        for column in (self.least, self.greatest):
            if column is not None and not is_number_column(column, scope):
                raise InvalidQuestion()
        if not isinstance(self.having, tuple) or not all([self._is_bound(bound) for bound in self.having]):
            raise InvalidQuestion()

    def _is_bound(self, thing):
        """Whether it bounds the count, or the least or greatest number if that column is given."""
        if not isinstance(thing, tuple) or len(thing) != 3:
            return False
        what, operator, limit = thing
        given = {"count": True, "least": self.least is not None, "greatest": self.greatest is not None}
        return isinstance(what, str) and given.get(what, False) and operator in ("<=", ">=") and is_number(limit)

    def answer_in(self, store):
        """The answer in the store."""
        matches = self.matches_in(store)
        scope = scope_of(self.uses, store.tables)
        spots = [scope[column] for column in self.by]
        groups = {}
        for match in matches:
            groups.setdefault(tuple([spot.value_in(match) for spot in spots]), []).append(match)
        rows = []
        for values in sorted(list(groups)):
            measures = self._measures(groups[values], scope)
            if all([compares(measures[what], operator, limit) for what, operator, limit in self.having]):
                rows.append(values + tuple(measures.values()))
        return tuple(rows)

    def _measures(self, matches, scope):
        """What a bound may speak of, in the order of the answer's columns: the count, the least, the greatest."""
        measures = {"count": len(matches)}
        if self.least is not None:
            measures["least"] = min([scope[self.least].value_in(match) for match in matches])
        if self.greatest is not None:
            measures["greatest"] = max([scope[self.greatest].value_in(match) for match in matches])
        return measures

    def matches_in(self, store):
        """The matches in the store, ascending."""
        tables = store.tables
        self.check(*tables)
        return matches_of(self.uses, self.where, self.without, store)

    def text(self):
        """The text of the question."""
        parts = [f"{body_text(self.uses, self.where, self.without)} group"]
        if self.by:
            parts.append(columns_text(self.by))
        if self.least is not None:
            parts.append(f"least {self.least}")
        if self.greatest is not None:
            parts.append(f"greatest {self.greatest}")
        if self.having:
            parts.append(f"having {conditions_text(self.having)}")
        return " ".join(parts)

    def __eq__(self, other):
        return isinstance(other, Groups) and same(
            (self.uses, self.by, self.where, self.without, self.least, self.greatest, self.having),
            (other.uses, other.by, other.where, other.without, other.least, other.greatest, other.having))
