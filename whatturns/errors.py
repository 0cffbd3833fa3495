"""The errors of the package; what an error is given is also its attribute, as it was given."""


class TurnError(ValueError):
    """An argument is not what it has to be, or something asked for cannot be had."""


class InvalidTable(TurnError):
    """The arguments are not those of a table."""


class InvalidStore(TurnError):
    """The arguments are not one to three tables with different names."""


class InvalidChange(TurnError):
    """The value is no change of the tables."""

    def __init__(self, change):
        TurnError.__init__(self, "not a change of these tables")
        self.change = change


class InvalidQuestion(TurnError):
    """The question is none for the tables."""


class InvalidForm(TurnError):
    """The arguments are not those of a form, or forms do not go together."""


class InvalidText(TurnError):
    """The value is no such text."""


class InvalidCommand(TurnError):
    """The value is no command of a console."""


class InvalidShape(TurnError):
    """The value is no template, no shape or no bounds."""


class Full(TurnError):
    """There is no place for one more."""


class NameTaken(TurnError):
    """There is a replica with this name."""

    def __init__(self, name):
        TurnError.__init__(self, "the name is taken")
        self.name = name


class Broken(TurnError):
    """The constraint with this number has an answer."""

    def __init__(self, number):
        TurnError.__init__(self, "a constraint has an answer")
        self.number = number


class Barred(TurnError):
    """The constraints with these numbers bar the change."""

    def __init__(self, numbers):
        TurnError.__init__(self, "constraints bar the change")
        self.numbers = numbers


class NoOrder(TurnError):
    """No order of the sessions is right; the tree shows why."""

    def __init__(self, tree):
        TurnError.__init__(self, "no order of the sessions is right")
        self.tree = tree


class Unknown(KeyError):
    """What was named is not there."""


class UnknownTable(Unknown):
    """There is no table with this name."""

    def __init__(self, name):
        Unknown.__init__(self, "no such table")
        self.name = name


class UnknownRow(Unknown):
    """The row is not there."""

    def __init__(self, row):
        Unknown.__init__(self, "no such row")
        self.row = row


class UnknownNumber(Unknown):
    """Nothing stands under this number."""

    def __init__(self, number):
        Unknown.__init__(self, "nothing with this number")
        self.number = number


class UnknownReplica(Unknown):
    """There is no replica with this name."""

    def __init__(self, name):
        Unknown.__init__(self, "no such replica")
        self.name = name
