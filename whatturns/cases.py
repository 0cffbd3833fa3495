"""A store in which a change of a shape turns the answer of a select, or a certificate that there is none."""

from whatturns.asking import check_plain_select
from whatturns.changes import is_change_of
from whatturns.errors import InvalidShape
from whatturns.proofchecks import is_proof
from whatturns.scenes import change_scenes
from whatturns.searches import Search
from whatturns.shapes import are_bounds, is_of_shape
from whatturns.stores import Store
from whatturns.values import same


def turning_case(shape, bounds, select, *tables):
    """("case", store, change) or ("certificate", certificate)."""
    _check(shape, bounds, select, tables)
    certificate = []
    for part, places, scene in change_scenes(shape, bounds, select, tables):
        tree, picture = Search(scene).outcome(scene.root)
        if tree is None:
            store, change = _case_of(shape, scene, picture, tables)
            return ("case", store, change)
        certificate.append((part, places, tree))
    return ("certificate", tuple(certificate))


def case_holds(shape, bounds, select, thing, *tables):
    """Whether it is (store, change) of a case."""
    _check(shape, bounds, select, tables)
    if not isinstance(thing, tuple) or len(thing) != 2:
        return False
    store, change = thing
    if not isinstance(store, Store) or store.tables != tables or not is_change_of(change, tables):
        return False
    if not is_of_shape(change, shape, bounds, tables):
        return False
    after = store.copy()
    return after.do(change)[0] and select.answer_in(after) != select.answer_in(store)


def certificate_holds(shape, bounds, select, thing, *tables):
    """Whether it is a certificate that there is no case."""
    _check(shape, bounds, select, tables)
    scenes = change_scenes(shape, bounds, select, tables)
    if not isinstance(thing, tuple) or len(thing) != len(scenes):
        return False
    for entry, (part, places, scene) in zip(thing, scenes):
        if not isinstance(entry, tuple) or len(entry) != 3 or not same(entry[:2], (part, places)):
            return False
        if not is_proof(entry[2], scene):
            return False
    return True


def _check(shape, bounds, select, tables):
    """Raise the error for the first of these that is none for the tables."""
    if not are_bounds(bounds, shape, *tables):
        raise InvalidShape()
    check_plain_select(select, tables)


def _case_of(shape, scene, picture, tables):
    """The store and the change with the values of the picture."""
    rows = {name: tuple([picture.value_of(term) for term in terms]) for name, (_, terms) in scene.rows.items()}
    store = Store(*tables)
    for name, (table, _) in scene.rows.items():
        if name != ".new":
            store.do(("insert", table.name, rows[name]))
    return store, (*shape[:2], *[rows[name] for name in (".old", ".new") if name in rows])
