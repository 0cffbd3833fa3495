"""Whether the answer of one select is within that of another one in all stores."""

from whatturns.asking import check_plain_select
from whatturns.errors import InvalidQuestion
from whatturns.proofchecks import is_proof
from whatturns.scenes import within_scene
from whatturns.searches import Search
from whatturns.stores import Store


def within_case(first, second, *tables):
    """("case", store), with a row of the answer of the first select alone, or ("certificate", certificate)."""
    _check(first, second, tables)
    scene = within_scene(first, second, tables)
    tree, picture = Search(scene).outcome(scene.root)
    if tree is not None:
        return ("certificate", tree)
    store = Store(*tables)
    for table, terms in scene.rows.values():
        store.do(("insert", table.name, tuple([picture.value_of(term) for term in terms])))
    return ("case", store)


def outside_holds(first, second, thing, *tables):
    """Whether it is a store in which the answer of the first select has a row that the other one does not have."""
    _check(first, second, tables)
    if not isinstance(thing, Store) or thing.tables != tables:
        return False
    others = second.answer_in(thing)
    return any([row not in others for row in first.answer_in(thing)])


def within_holds(first, second, thing, *tables):
    """Whether it is a certificate that there is no such store."""
    _check(first, second, tables)
    return is_proof(thing, within_scene(first, second, tables))


def _check(first, second, tables):
    """Raise InvalidQuestion if these are not two selects with the same kinds of kept columns."""
    check_plain_select(first, tables)
    check_plain_select(second, tables)
    if first.numeric_columns(tables) != second.numeric_columns(tables):
        raise InvalidQuestion()
