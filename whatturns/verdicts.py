"""In which worlds the answer of a question is another one than it is now."""

from whatturns.counters import count_in, counter_within, less_and_equal, sum_of
from whatturns.plans import GroupsPlan
from whatturns.values import compares
from whatturns.worlds import Exclusions


def turned_worlds(plan, worlds, candidates, impossible):
    """The worlds in which the change is possible and the answer is another one than it is now.

    The candidates are, for each part of the plan, the tuples of rows for which its conditions hold.
    """
    if isinstance(plan, GroupsPlan):
        turned = _turned_by_groups(plan, worlds, candidates[0])
    else:
        turned = _turned_by_rows(plan, worlds, candidates, impossible)
    return turned ^ (turned & impossible)


def _turned_by_rows(plan, worlds, candidates, impossible):
    """The worlds in which a row of the answer has no match any more, or a row comes."""
    turned = impossible
    matched = {row: 0 for row in plan.before}
    indexes = {}
    for kept, found in _by_kept(plan, worlds, candidates).items():
        open_places = tuple([place for place, value in enumerate(kept) if isinstance(value, tuple)])
        if open_places not in indexes:
            indexes[open_places] = _index_of(plan.before, open_places)
        ready = indexes[open_places].get(_closed(kept, open_places), [])
        known = turned | matched[kept] if kept in matched else turned
        here = _matched_worlds(found, worlds.full ^ known)
        for row in ready:
            equal = here
            for place in open_places:
                equal = equal & worlds.test(kept[place][0], "=", row[place])
            matched[row] = matched[row] | equal
            # Rows that fit the same open places are equal to what is kept in different worlds.
            here = here ^ equal
        turned = turned | _within_bound(plan.bound, kept, here, worlds)
    for row in plan.before:
        turned = turned | worlds.full ^ matched[row]
    return turned


def _by_kept(plan, worlds, candidates):
    """The candidates, as (rows, worlds, exclusions), by what they keep: values, or (place,) of the new row."""
    found = {}
    for part, pairs in zip(plan.parts, candidates):
        exclusions = Exclusions(part.body, worlds)
        for rows, here in pairs:
            kept = tuple([(spot.at,) if rows[spot.place] is None else spot.value_in(rows) for spot in part.told])
            found.setdefault(kept, []).append((rows, here, exclusions))
    return found


def _matched_worlds(candidates, wanted):
    """Those of the wanted worlds in which one of the candidates is a match."""
    found = 0
    for rows, here, exclusions in candidates:
        here = here & wanted
        here = exclusions.left_of(rows, here)
        found = found | here
        wanted = wanted ^ here
        if not wanted:
            break
    return found


def _index_of(answer, open_places):
    """The rows of the answer, by their values at the other places."""
    index = {}
    for row in answer:
        index.setdefault(_closed(row, open_places), []).append(row)
    return index


def _closed(row, open_places):
    return tuple([value for place, value in enumerate(row) if place not in open_places])


def _within_bound(bound, kept, here, worlds):
    """Those of these worlds in which a row that comes is not beyond the bound."""
    if bound is None or not here:
        return here
    place, operator, number = bound
    if isinstance(kept[place], tuple):
        return here & worlds.test(kept[place][0], operator, number)
    return here if compares(kept[place], operator, number) else 0


class Tally:
    """The matches with the same values by which they are grouped: how many there are, and their numbers."""

    def __init__(self):
        self.counter = []
        self.seen = 0
        self.least = {}
        self.greatest = {}

    def count_match(self, here, least, greatest):
        """Count a match in these worlds, with the numbers of which the least and the greatest are asked."""
        count_in(self.counter, here)
        self.seen = self.seen | here
        self.least[least] = self.least.get(least, 0) | here
        self.greatest[greatest] = self.greatest.get(greatest, 0) | here


class Group:
    """A group: parts of tallies, each as (tally, worlds) with the worlds in which its matches belong to the group."""

    def __init__(self, parts, plan, worlds):
        self.parts = [(tally, here) for tally, here in parts if tally.seen & here]
        self.plan = plan
        self.worlds = worlds

    def there(self):
        """The worlds in which it has a match."""
        found = 0
        for tally, here in self.parts:
            found = found | tally.seen & here
        return found

    def total(self):
        """How many matches it has."""
        found = []
        for tally, here in self.parts:
            found = sum_of(found, counter_within(tally.counter, here))
        return found

    def beyond(self, what, number):
        """The worlds in which it has a match with the number or beyond it: below for least, above for greatest."""
        found = 0
        for tally, here in self.parts:
            numbers = tally.least if what == "least" else tally.greatest
            for other in numbers:
                found = found | here & numbers[other] & self._reaches(what, other, number)
        return found

    def _reaches(self, what, other, number):
        """The worlds in which the other number, None for that of the new row, is the number or beyond it."""
        operator = "<=" if what == "least" else ">="
        if other is None:
            spot = self.plan.least if what == "least" else self.plan.greatest
            return self.worlds.test(spot.at, operator, number)
        return self.worlds.full if compares(other, operator, number) else 0

    def bounded(self, what, operator, number):
        """The worlds in which a bound holds, if it has a match there."""
        if what == "count":
            less, equal = less_and_equal(self.total(), number, self.worlds.full)
            return less | equal if operator == "<=" else self.worlds.full ^ less
        if (what == "least") == (operator == "<="):
            return self.beyond(what, number)
        return self.worlds.full ^ self.beyond(what, number - 1 if what == "least" else number + 1)

    def measured(self, measures):
        """The worlds in which it has these measures, if it has a match there."""
        _, found = less_and_equal(self.total(), measures[0], self.worlds.full)
        asked = [("least", -1)] if self.plan.least is not None else []
        asked.extend([("greatest", 1)] if self.plan.greatest is not None else [])
        for (what, step), number in zip(asked, measures[1:]):
            reached = self.beyond(what, number)
            found = found & (reached ^ reached & self.beyond(what, number + step))
        return found


def _turned_by_groups(plan, worlds, candidates):
    """The worlds in which a group has other measures, comes or goes."""
    turned = 0
    tallies = _tallies(plan, worlds, candidates)
    choices = _values_by_place(plan, tallies)
    for label in _labels(choices):
        group = Group(_parts_of(label, choices, plan.parts[0].told, tallies, worlds), plan, worlds)
        here = group.there()
        if label in plan.measures:
            turned = turned | worlds.full ^ (here & group.measured(plan.measures[label]))
        elif here:
            for what, operator, number in plan.having:
                here = here & group.bounded(what, operator, number)
            turned = turned | here
    return turned


def _tallies(plan, worlds, candidates):
    """The tallies by the values by which the matches are grouped, None for a name of the new row."""
    tallies = {}
    exclusions = Exclusions(plan.parts[0].body, worlds)
    for rows, before in candidates:
        here = exclusions.left_of(rows, before)
        values = tuple([_known_value(spot, rows) for spot in plan.parts[0].told])
        if values not in tallies:
            tallies[values] = Tally()
        tallies[values].count_match(here, _known_value(plan.least, rows), _known_value(plan.greatest, rows))
    return tallies


def _known_value(spot, rows):
    """The value at the spot; None if there is no spot or the row is the new one."""
    return None if spot is None or rows[spot.place] is None else spot.value_in(rows)


def _values_by_place(plan, tallies):
    """For each column by which matches are grouped the names that are known there, ascending."""
    known = [*tallies, *plan.measures]
    return [sorted({values[place] for values in known if values[place] is not None})
            for place in range(len(plan.parts[0].told))]


def _labels(choices):
    """All groups, by their names; None is any name that is not known at its place."""
    labels = [()]
    for names in choices:
        labels = [(*label, name) for label in labels for name in [*names, None]]
    return labels


def _parts_of(label, choices, spots, tallies, worlds):
    """The tallies that may have matches of the group, each with the worlds in which they are of this group."""
    parts = [((), worlds.full)]
    for name, names, spot in zip(label, choices, spots):
        longer = [((*values, name), here) for values, here in parts if name is not None]
        if spot.table == worlds.name:
            longer.extend([((*values, None), here & _named(name, names, spot, worlds)) for values, here in parts])
        parts = longer
    return [(tallies[values], here) for values, here in parts if values in tallies]


def _named(name, names, spot, worlds):
    """The worlds in which the new row has this name at the spot, or none of the names if it is None."""
    if name is not None:
        return worlds.test(spot.at, "=", name)
    others = worlds.full
    for known in names:
        others = others & worlds.test(spot.at, "!=", known)
    return others
