"""Which changes turn an answer, by asking again in a changed copy of the store."""

from whatturns.forms import Form
from whatturns.turning import Turners, turners

NEW_NAMES = ("qqq", "zzz", "xx")


def turned(question, store, change):
    """(possible, whether it turns the answer)."""
    after = store.copy()
    possible = after.do(change)[0]
    return possible, question.answer_in(after) != question.answer_in(store)


def sample_rows(chance, table, store, count):
    """The rows that are there, and others: near them, and with values that nothing has."""
    values = [value for _, row in store.walk() for value in row]
    names = [value for value in values if isinstance(value, str)] + ["ann", "bob", "u", *NEW_NAMES]
    numbers = [value + step for value in values if isinstance(value, int) for step in (-1, 0, 1)]
    numbers += [-99, -3, -2, -1, 0, 1, 2, 3, 4, 99]
    there = list(store.rows_of(table.name))
    rows = list(there)
    for _ in range(count):
        row = [chance.choice(names) for _ in table.names] + [chance.choice(numbers) for _ in table.numbers]
        if there and chance.random() < 0.6:
            near = chance.choice(there)
            row = [old if chance.random() < 0.5 else new for old, new in zip(near, row)]
        if len(table.names) == 2 and chance.random() < 0.3:
            row[1] = row[0]
        rows.append(tuple(row))
    return rows


def check_turners(case, chance, question, store, count):
    """Compare all that turners tell with asking again, at so many rows for each form."""
    found = turners(question, store)
    data = found.data()
    told = Turners.read(data, *store.tables)
    case.assertEqual(told.data(), data)
    case.assertEqual([name for name, _, _ in data], [table.name for table in store.tables])
    for table, (_, tree, kept) in zip(store.tables, data):
        rows = store.rows_of(table.name)
        inserts = found.inserts(table.name)
        case.assertEqual((inserts.table, inserts.tree), (table, tree))
        case.assertEqual(Form.read(table, tree), inserts)
        deletes = tuple(row for row in rows if turned(question, store, ("delete", table.name, row))[1])
        case.assertEqual(found.deletes(table.name), deletes, (question.text(), store.text()))
        changes = [("insert", table.name, row) for row in sample_rows(chance, table, store, count)]
        changes += [("delete", table.name, row) for row in rows]
        relevant = []
        for old in rows:
            replaces = found.replaces(table.name, old)
            case.assertEqual(Form.read(table, replaces.tree), replaces)
            case.assertEqual(told.replaces(table.name, old), replaces)
            if old in deletes or replaces != inserts:
                relevant.append((old, old in deletes, replaces.tree))
            changes += [("replace", table.name, old, row) for row in sample_rows(chance, table, store, count)]
        case.assertEqual(kept, tuple(relevant))
        case.assertEqual(found.relevant(table.name), tuple(row for row, _, _ in relevant))
        for change in changes:
            check_change(case, question, store, change, found, told)


def check_change(case, question, store, change, found, told):
    possible, turns = turned(question, store, change)
    place = (question.text(), store.text(), change)
    if change[0] == "insert":
        case.assertIs(found.inserts(change[1])(change[2]), turns, place)
    if change[0] == "replace":
        case.assertIs(found.replaces(change[1], change[2])(change[3]), turns, place)
    if possible:
        case.assertIs(found.turns(change), turns, place)
        case.assertIs(told.turns(change), turns, place)
