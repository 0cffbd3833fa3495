"""What counts as an integer, when two values are equal, and how two values of a row compare."""


def is_number(thing):
    """Whether it is an integer; a bool is none."""
    return isinstance(thing, int) and not isinstance(thing, bool)


def is_number_word(word):
    """Whether the string is an integer as texts write it: no leading zeros, no sign but a minus, 0 without one."""
    digits = word.removeprefix("-")
    return word == "0" or (digits.isascii() and digits.isdigit() and not digits.startswith("0"))


def compares(one, operator, other):
    """Whether the operator of a condition or a bound holds between two names or two integers."""
    if operator == "=":
        return one == other
    if operator == "!=":
        return one != other
    if operator == "<=":
        return one <= other
    return one >= other


def same(one, other):
    """Whether two values of any kind are equal and have bools at the same places."""
    # A stack instead of recursion, since values may be nested deep.
    pairs = [(one, other)]
    while pairs:
        left, right = pairs.pop()
        if _are_sequences(left, right):
            if len(left) != len(right):
                return False
            pairs.extend(list(zip(left, right)))
        elif isinstance(left, dict) and isinstance(right, dict):
            if not _same_keys(left, right):
                return False
            pairs.extend([(left[key], right[key]) for key in left])
        elif isinstance(left, bool) != isinstance(right, bool) or left != right:
            return False
    return True


def _are_sequences(left, right):
    """Whether both are tuples, or both are lists."""
    both_tuples = isinstance(left, tuple) and isinstance(right, tuple)
    return both_tuples or (isinstance(left, list) and isinstance(right, list))


def _same_keys(left, right):
    """Whether two dicts have the same keys, with bools at the same places in them."""
    if not all([key in right for key in left]):
        return False
    # 1 and True are one key for a dict; written out they differ.
    return sorted([repr(key) for key in left]) == sorted([repr(key) for key in right])
