"""Whether a value is a tree that shows that a scene cannot be."""

from whatturns.facts import are_clashing, is_fact


def is_proof(thing, scene):
    """Whether each branch of the tree is one of the scene and ends in facts that cannot all be true."""
    numbers = scene.number_terms()
    # A stack instead of recursion, since values may be nested deep.
    pending = [(thing, scene.root)]
    while pending:
        tree, facts = pending.pop()
        if not isinstance(tree, tuple) or len(tree) < 2:
            return False
        if tree[0] == "clash":
            if not _is_clash(tree, facts):
                return False
        else:
            branches, trees = _parts(tree, facts, scene, numbers)
            if branches is None or not isinstance(trees, tuple) or len(trees) != len(branches):
                return False
            pending.extend([(below, facts + new) for below, new in zip(trees, branches)])
    return True


def _is_clash(tree, facts):
    """Whether it has facts of this branch, one or more, that are a clash."""
    chosen = tree[1]
    if len(tree) != 2 or not isinstance(chosen, tuple) or not chosen:
        return False
    return all([is_fact(fact) and fact in facts for fact in chosen]) and are_clashing(chosen)


def _parts(tree, facts, scene, numbers):
    """(branches, trees): the facts of each branch that there must be, or None, and what stands for the trees."""
    word = tree[0]
    if word == "way" and len(tree) == 3:
        return scene.way_branches(tree[1]), tree[2]
    if word == "key" and len(tree) == 5 and isinstance(tree[4], tuple):
        return scene.key_branches(tree[1], tree[2]), (tree[3], *tree[4])
    if word == "apart" and len(tree) == 4:
        return scene.apart_branches(tree[1], tree[2]), tree[3]
    if word == "split" and len(tree) == 4:
        return _split_branches(tree[1], facts, numbers), tree[2:]
    return None, ()


def _split_branches(fact, facts, numbers):
    """The two branches for a fact of this branch that numbers are not equal."""
    if not is_fact(fact) or fact[1] != "!=" or fact not in facts:
        return None
    one, _, other = fact
    if one not in numbers:
        return None
    return [[(one, "<", other)], [(other, "<", one)]]
