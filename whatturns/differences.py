"""What came and what went between two ascending tuples."""


def differences(before, after):
    """The ascending tuples of what is in the one after it alone, and in the one before it alone."""
    return _beside(after, before), _beside(before, after)


def _beside(things, others):
    known = {other: True for other in others}
    return tuple([thing for thing in things if thing not in known])
