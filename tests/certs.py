"""Certificates by the plain words of points 24 and 25, written apart from the package; and ways to spoil them."""

import itertools
import re

FLIP = {"=": "!=", "!=": "="}


def exact(one, other):
    """Equal, with bools at the same places."""
    if isinstance(one, tuple) and isinstance(other, tuple):
        return len(one) == len(other) and all(map(exact, one, other))
    return type(one) is type(other) and one == other


def table_of(name, tables):
    return next(table for table in tables if table.name == name)


def term_of(column, uses, rows):
    """The term of ALIAS.COLUMN, of (table, terms) for each use."""
    alias, name = column.split(".")
    table, terms = rows[[use for use, _ in uses].index(alias)]
    return terms[table.columns.index(name)]


def as_fact(one, operator, other):
    return (other, "<=", one) if operator == ">=" else (one, operator, other)


def condition_facts(select, rows):
    found = []
    for column, operator, operand in select.where:
        is_column = isinstance(operand, str) and "." in operand
        other = term_of(operand, select.uses, rows) if is_column else operand
        found.append(as_fact(term_of(column, select.uses, rows), operator, other))
    return found


def kept_terms(select, rows):
    return [term_of(column, select.uses, rows) for column in select.keep]


def unknown(alias, table):
    return table, tuple(f"{alias}.{column}" for column in table.columns)


class Stage:
    """All that a tree may speak of."""

    def __init__(self, tables, rows, facts, before, after, select, kept, ways):
        self.tables, self.rows, self.facts = tables, rows, facts
        self.before, self.after = before, after
        self.select, self.kept, self.ways = select, kept, ways

    def is_number_term(self, term):
        if type(term) is int:
            return True
        return any(term in terms[len(table.names):] for table, terms in self.rows.values())


def stages_of(shape, bounds, select, tables):
    """(part, places, stage) in the order of a certificate."""
    kind, name, *parts = shape
    table = table_of(name, tables)
    own = [place for place, (_, used) in enumerate(select.uses) if used == name]
    found = []
    for part in {"insert": ["comes"], "delete": ["goes"], "replace": ["comes", "goes"]}[kind]:
        subsets = [places for size in (1, 2) for places in itertools.combinations(own, size)]
        for places in sorted(subsets):
            rows = {}
            if kind in ("insert", "replace"):
                rows[".new"] = (table, parts[-1])
            if kind in ("delete", "replace"):
                rows[".old"] = (table, parts[0])
            match = []
            for place, (alias, used) in enumerate(select.uses):
                if place in places:
                    match.append(".new" if part == "comes" else ".old")
                else:
                    rows[alias] = unknown(alias, table_of(used, tables))
                    match.append(alias)
            before = [row for row in rows if row != ".new"]
            after = [row for row in rows if row != ".old"]
            terms = [rows[row] for row in match]
            facts = [as_fact(*bound) for bound in bounds] + condition_facts(select, terms)
            found.append((part, places, Stage(tables, rows, facts, before, after, select, kept_terms(select, terms),
                                              before if part == "comes" else after)))
    return found


def stage_within(first, second, tables):
    rows = {alias: unknown(alias, table_of(name, tables)) for alias, name in first.uses}
    terms = [rows[alias] for alias, _ in first.uses]
    return Stage(tables, rows, condition_facts(first, terms), list(rows), list(rows), second,
                 kept_terms(first, terms), list(rows))


def is_certificate(thing, shape, bounds, select, tables):
    stages = stages_of(shape, bounds, select, tables)
    if not isinstance(thing, tuple) or len(thing) != len(stages):
        return False
    for entry, (part, places, stage) in zip(thing, stages):
        if not isinstance(entry, tuple) or len(entry) != 3 or not exact(entry[:2], (part, places)):
            return False
        if not is_tree(entry[2], stage, stage.facts):
            return False
    return True


def is_certificate_within(thing, first, second, tables):
    stage = stage_within(first, second, tables)
    return is_tree(thing, stage, stage.facts)


def is_tree(tree, stage, facts):
    """Whether it is a tree of the stage, below a branch with these facts."""
    if not isinstance(tree, tuple) or not tree or not isinstance(tree[0], str):
        return False
    size = {"clash": 2, "way": 3, "key": 5, "apart": 4, "split": 4}.get(tree[0])
    if size != len(tree):
        return False
    if tree[0] == "clash":
        return (isinstance(tree[1], tuple) and len(tree[1]) > 0
                and all(any(exact(fact, known) for known in facts) for fact in tree[1]) and is_chain(tree[1]))
    if tree[0] == "split":
        fact = tree[1]
        if not any(exact(fact, known) for known in facts) or fact[1] != "!=" or not stage.is_number_term(fact[0]):
            return False
        return (is_tree(tree[2], stage, facts + [(fact[0], "<", fact[2])])
                and is_tree(tree[3], stage, facts + [(fact[2], "<", fact[0])]))
    if tree[0] == "way":
        return is_way(tree, stage, facts)
    first, second = tree[1], tree[2]
    if not isinstance(first, str) or not isinstance(second, str) or first == second:
        return False
    if first not in stage.rows or second not in stage.rows:
        return False
    (table, one), (other_table, other) = stage.rows[first], stage.rows[second]
    if table.name != other_table.name:
        return False
    differ = {column: [(a, "!=", b)] for column, a, b in zip(table.columns, one, other)}
    if tree[0] == "apart":
        if first not in (".new", ".old") or second in (".new", ".old"):
            return False
        return are_trees(tree[3], stage, facts, list(differ.values()))
    together = (first in stage.before and second in stage.before) or (first in stage.after and second in stage.after)
    if not table.key or not together:
        return False
    return (is_tree(tree[3], stage, facts + [(a, "=", b) for a, b in zip(one, other)])
            and are_trees(tree[4], stage, facts, [differ[column] for column in table.key]))


def is_way(tree, stage, facts):
    names = tree[1]
    if not isinstance(names, tuple) or len(names) != len(stage.select.uses):
        return False
    for name, (_, used) in zip(names, stage.select.uses):
        if not isinstance(name, str) or name not in stage.ways or stage.rows[name][0].name != used:
            return False
    rows = [stage.rows[name] for name in names]
    branches = []
    for one, operator, other in condition_facts(stage.select, rows):
        branches.append([(other, "<", one) if operator == "<=" else (one, FLIP[operator], other)])
    for one, other in zip(kept_terms(stage.select, rows), stage.kept):
        branches.append([(one, "!=", other)])
    return are_trees(tree[2], stage, facts, branches)


def are_trees(trees, stage, facts, branches):
    if not isinstance(trees, tuple) or len(trees) != len(branches):
        return False
    return all(is_tree(tree, stage, facts + branch) for tree, branch in zip(trees, branches))


def readings(facts):
    """Each (first, last) with which the facts are a chain of terms, all ways of turning them round being kept."""
    found = None
    for one, operator, other in facts:
        steps = {"=": [(one, other), (other, one)], "<=": [(one, other)], "<": [(one, other)]}.get(operator, [])
        if found is None:
            found = set(steps)
        else:
            found = {(first, after) for first, last in found for before, after in steps if before == last}
    return found


def is_chain(facts):
    operators = [operator for _, operator, _ in facts]
    if set(operators) == {"="}:
        for first, last in readings(facts):
            if all(re.fullmatch("[a-z]+", str(term)) for term in (first, last)) and first != last:
                return True
    if operators[-1] == "!=" and set(operators[:-1]) <= {"="}:
        one, _, other = facts[-1]
        if len(facts) == 1:
            return one == other
        return bool({(one, other), (other, one)} & readings(facts[:-1]))
    if set(operators) <= {"=", "<=", "<"}:
        count = operators.count("<")
        for first, last in readings(facts):
            if first == last and count > 0:
                return True
            if type(first) is int and type(last) is int and last < first + count:
                return True
    return False


def places_in(thing, path=()):
    """The paths to all parts of a nested tuple, the whole included."""
    yield path
    if isinstance(thing, tuple):
        for at, part in enumerate(thing):
            yield from places_in(part, (*path, at))


def part_at(thing, path):
    for at in path:
        thing = thing[at]
    return thing


def put_at(thing, path, new):
    if not path:
        return new
    return (*thing[:path[0]], put_at(thing[path[0]], path[1:], new), *thing[path[0] + 1:])


def spoilt(chance, thing, values):
    """The nested tuple with one part left out, doubled, exchanged, turned round, made a list or replaced."""
    paths = list(places_in(thing))
    path = chance.choice(paths)
    part = part_at(thing, path)
    deed = chance.choice(("out", "twice", "swap", "turn", "list", "value", "other", "other"))
    if isinstance(part, tuple) and part:
        at = chance.randrange(len(part))
        if deed == "out":
            return put_at(thing, path, part[:at] + part[at + 1:])
        if deed == "twice":
            return put_at(thing, path, part[:at + 1] + part[at:])
        if deed == "swap":
            other = chance.randrange(len(part))
            parts = list(part)
            parts[at], parts[other] = parts[other], parts[at]
            return put_at(thing, path, tuple(parts))
        if deed == "turn":
            return put_at(thing, path, part[::-1])
        if deed == "list":
            return put_at(thing, path, list(part))
    if deed == "value":
        return put_at(thing, path, chance.choice(values))
    if type(part) is int:
        return put_at(thing, path, chance.choice((part + 1, part - 1, part == 1, str(part), -part)))
    return put_at(thing, path, part_at(thing, chance.choice(paths)))
