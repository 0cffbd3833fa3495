"""Scenes: the rows, the facts and the ways of which a tree of a certificate speaks."""

from whatturns.changes import changed_parts
from whatturns.facts import fact_of, failing
from whatturns.matching import conditions_of
from whatturns.scopes import scope_of
from whatturns.tables import table_named

_NEW = ".new"
_OLD = ".old"


class Wanted:
    """A select made ready to be read with a row of terms for each use."""

    def __init__(self, select, tables):
        scope = scope_of(select.uses, tables)
        self.uses = select.uses
        self.conditions = conditions_of(select.where, scope)
        self.keeping = [scope[column] for column in select.keep]

    def facts_with(self, rows):
        """What the conditions say of these rows."""
        found = []
        for ready in self.conditions:
            other = ready.value if ready.right is None else ready.right.value_in(rows)
            found.append(fact_of(ready.left.value_in(rows), ready.operator, other))
        return found

    def kept_of_terms(self, rows):
        """What is kept of these rows."""
        return [spot.value_in(rows) for spot in self.keeping]


class Scene:
    """Rows, as (table, terms) by their names, the facts at the root, and what else a tree may use.

    The moments are lists of the names of rows that are there together; the last of them is the one for other ways to
    have the row with these kept terms. The strangers are the rows that are neither the new nor the old one.
    """

    def __init__(self, rows, root, moments, strangers, wanted, kept):
        self.rows = rows
        self.root = root
        self.moments = moments
        self.strangers = strangers
        self.wanted = wanted
        self.kept = kept

    def number_terms(self):
        """The terms of the number columns, as a dict of True."""
        return {term: True for table, terms in self.rows.values() for term in terms[len(table.names):]}

    def name_terms(self):
        """The terms of the name columns."""
        return [term for table, terms in self.rows.values() for term in terms[:len(table.names)]]

    def way_rows(self, name):
        """The names of the rows of the table with this name that another way may use."""
        return [row for row in self.moments[-1] if self.rows[row][0].name == name]

    def way_branches(self, names):
        """For each condition and each kept column of another way the list of the fact that it fails."""
        uses = self.wanted.uses
        if not isinstance(names, tuple) or len(names) != len(uses):
            return None
        if not all([name in self.way_rows(table) for name, (_, table) in zip(names, uses)]):
            return None
        rows = [self.rows[name][1] for name in names]
        found = [[failing(fact)] for fact in self.wanted.facts_with(rows)]
        kept = self.wanted.kept_of_terms(rows)
        return found + [[(one, "!=", other)] for one, other in zip(kept, self.kept)]

    def key_branches(self, first, second):
        """The facts that two rows are the same, then for each column of the key that they differ there."""
        if first == second or not any([first in moment and second in moment for moment in self.moments]):
            return None
        table, pairs = self._pairs(first, second)
        if not pairs or not table.key:
            return None
        same = [(one, "=", other) for one, other in pairs]
        apart = [[(one, "!=", other)] for column, (one, other) in zip(table.columns, pairs) if column in table.key]
        return [same, *apart]

    def apart_branches(self, first, second):
        """For each column the fact that the new or the old row and an unknown one differ there."""
        if first not in (_NEW, _OLD) or first not in self.rows or second not in self.strangers:
            return None
        _, pairs = self._pairs(first, second)
        return [[(one, "!=", other)] for one, other in pairs] or None

    def beginnings(self):
        """(head, branches) for each beginning of a tree of this scene, but those for facts that a branch may have."""
        ways = [()]
        for _, name in self.wanted.uses:
            ways = [(*way, row) for way in ways for row in self.way_rows(name)]
        found = [(("way", way), self.way_branches(way)) for way in ways]
        names = list(self.rows)
        for place, second in enumerate(names):
            found.extend([(("key", first, second), self.key_branches(first, second)) for first in names[:place]])
            found.extend([(("apart", first, second), self.apart_branches(first, second)) for first in names])
        return [(head, branches) for head, branches in found if branches is not None]

    def _pairs(self, first, second):
        """The table of the first row, and the pairs of terms of both, none if they are not of one table."""
        table, terms = self.rows[first]
        other_table, others = self.rows[second]
        return table, list(zip(terms, others)) if table.name == other_table.name else []


def change_scenes(shape, bounds, select, tables):
    """(part, places, scene) for each tree that a certificate for a shape of changes has, in order."""
    table, templates = changed_parts(shape, tables)
    changed = {}
    if shape[0] != "insert":
        changed[_OLD] = (table, templates[0])
    if shape[0] != "delete":
        changed[_NEW] = (table, templates[-1])
    facts = [fact_of(*bound) for bound in bounds]
    own = [place for place, (_, used) in enumerate(select.uses) if used == table.name]
    wanted = Wanted(select, tables)
    found = []
    for part, name, other in (("comes", _NEW, _OLD), ("goes", _OLD, _NEW)):
        if name in changed:
            for places in sorted(_choices_of(own)):
                match = [name if place in places else alias for place, (alias, _) in enumerate(select.uses)]
                unknown = _unknown_rows(select.uses, match, tables)
                aliases = list(unknown)
                moments = [[name, *aliases], [other, *aliases] if other in changed else aliases]
                found.append((part, places, _scene({**changed, **unknown}, facts, moments, match, wanted, wanted)))
    return found


def within_scene(first, second, tables):
    """The scene for a row of the answer of the first select that is in that of the second one, too."""
    match = [alias for alias, _ in first.uses]
    rows = _unknown_rows(first.uses, match, tables)
    return _scene(rows, [], [match], match, Wanted(first, tables), Wanted(second, tables))


def _scene(rows, facts, moments, match, matched, wanted):
    """The scene of a match with the rows of these names."""
    terms = [rows[name][1] for name in match]
    strangers = [name for name in rows if name not in (_NEW, _OLD)]
    return Scene(rows, facts + matched.facts_with(terms), moments, strangers, wanted, matched.kept_of_terms(terms))


def _unknown_rows(uses, match, tables):
    """The rows of the uses that the match calls by their aliases, with their columns as terms."""
    found = {}
    for alias, name in uses:
        if alias in match:
            table = table_named(name, tables)
            found[alias] = (table, tuple([f"{alias}.{column}" for column in table.columns]))
    return found


def _choices_of(places):
    """All choices of at least one of the places, ascending tuples."""
    found = []
    for place in places:
        found = [*found, (place,), *[(*chosen, place) for chosen in found]]
    return found
