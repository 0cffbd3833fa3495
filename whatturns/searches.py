"""The search for values with which a scene can be, or for a tree that shows that it cannot."""

from whatturns.pictures import Picture


class Choice:
    """What a tree may branch by: its beginning as a tuple, and the facts of each branch, one of which is true."""

    def __init__(self, head, branches):
        self.head = head
        self.branches = branches

    def node(self, trees):
        """The tree with these trees in its branches."""
        if self.head[0] == "key":
            return (*self.head, trees[0], tuple(trees[1:]))
        if self.head[0] == "split":
            return (*self.head, *trees)
        return (*self.head, tuple(trees))

    def is_made(self, facts):
        """Whether one of the branches is among these facts."""
        return any([all([fact in facts for fact in branch]) for branch in self.branches])

    def holds(self, picture):
        """Whether the facts of one of the branches are true in the picture."""
        return any([all([picture.is_true(fact) for fact in branch]) for branch in self.branches])


class Search:
    """A scene with all by which its trees may branch at once."""

    def __init__(self, scene):
        self.numbers = scene.number_terms()
        self.names = scene.name_terms()
        self.choices = [Choice(head, branches) for head, branches in scene.beginnings()]

    def outcome(self, facts):
        """(None, picture) with a picture in which these facts and the scene are true, or (tree, facts it needs)."""
        picture = self._picture(facts)
        if picture.chain is not None:
            return ("clash", tuple(picture.chain)), picture.chain
        choice = self._next_choice(facts, picture)
        if choice is None:
            return None, picture
        trees = []
        needed = [choice.head[1]] if choice.head[0] == "split" else []
        for branch in choice.branches:
            new = [fact for fact in branch if fact not in facts]
            tree, used = self.outcome(facts + new)
            # A tree that needs nothing of its branch is one for all facts before it; so is a picture for them.
            if tree is None or not any([fact in used for fact in new]):
                return tree, used
            trees.append(tree)
            needed.extend([fact for fact in used if fact not in new])
        return choice.node(trees), needed

    def _next_choice(self, facts, picture):
        """A choice that is not true in the picture, with as few branches that are not closed at once as can be."""
        splits = [Choice(("split", fact), [[(fact[0], "<", fact[2])], [(fact[2], "<", fact[0])]])
                  for fact in facts if fact[1] == "!=" and not picture.is_true(fact)]
        best, fewest = None, None
        for choice in [*self.choices, *splits]:
            if not choice.holds(picture) and not choice.is_made(facts):
                still_open = self._count_open(choice, facts, fewest)
                if fewest is None or still_open < fewest:
                    best, fewest = choice, still_open
        return best

    def _count_open(self, choice, facts, most):
        """How many branches of the choice are not closed at once; not more than so many are counted."""
        count = 0
        for branch in choice.branches:
            if count == most:
                break
            if self._picture(facts + branch).chain is None:
                count = count + 1
        return count

    def _picture(self, facts):
        return Picture(facts, self.names, self.numbers)
