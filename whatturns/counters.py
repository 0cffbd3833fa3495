"""Counting in many worlds at once: a counter is a list with, for each binary digit, the worlds in which it is 1."""


def count_in(counter, worlds):
    """Count one more in these worlds."""
    for place, digit in enumerate(list(counter)):
        counter[place] = digit ^ worlds
        worlds = digit & worlds
    if worlds:
        counter.append(worlds)


def sum_of(one, other):
    """A counter with the sum of two counters."""
    total, carry = [], 0
    for place in range(max(len(one), len(other))):
        left = one[place] if place < len(one) else 0
        right = other[place] if place < len(other) else 0
        total.append(left ^ right ^ carry)
        carry = left & right | carry & (left ^ right)
    if carry:
        total.append(carry)
    return total


def counter_within(counter, worlds):
    """The counter in these worlds, and 0 elsewhere."""
    return [digit & worlds for digit in counter]


def less_and_equal(counter, number, full):
    """The worlds in which the count is less than the number, and those in which it is the number."""
    if number < 0:
        return 0, 0
    less, equal = 0, full
    for place in reversed(range(max(len(counter), number.bit_length()))):
        ones = equal & counter[place] if place < len(counter) else 0
        if number >> place & 1:
            less = less | equal ^ ones
            equal = ones
        else:
            equal = equal ^ ones
    return less, equal
