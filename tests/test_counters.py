"""Counting in many worlds at once, beside counting in each."""

import random
import unittest

from whatturns.counters import count_in, counter_within, less_and_equal, sum_of

WORLDS = 40
FULL = (1 << WORLDS) - 1


def drawn_counter(chance):
    """A counter and the counts that it should have."""
    counter, counts = [], [0] * WORLDS
    for _ in range(chance.randint(0, 12)):
        worlds = chance.getrandbits(WORLDS) | chance.choice((0, 1))
        count_in(counter, worlds)
        counts = [count + (worlds >> world & 1) for world, count in enumerate(counts)]
    return counter, counts


def counts_of(counter):
    return [sum((digit >> world & 1) << place for place, digit in enumerate(counter)) for world in range(WORLDS)]


class Counters(unittest.TestCase):
    def test_counts_and_sums(self):
        chance = random.Random(61)
        for _ in range(300):
            one, first = drawn_counter(chance)
            other, second = drawn_counter(chance)
            before = list(one), list(other)
            self.assertEqual((counts_of(one), counts_of(other)), (first, second))
            self.assertEqual(counts_of(sum_of(one, other)), [left + right for left, right in zip(first, second)])
            worlds = chance.getrandbits(WORLDS)
            self.assertEqual(counts_of(counter_within(one, worlds)),
                             [count * (worlds >> world & 1) for world, count in enumerate(first)])
            self.assertEqual((one, other), before)

    def test_comparisons(self):
        chance = random.Random(62)
        for _ in range(300):
            counter, counts = drawn_counter(chance)
            number = chance.randint(-2, 20)
            less, equal = less_and_equal(counter, number, FULL)
            self.assertEqual([less >> world & 1 for world in range(WORLDS)], [count < number for count in counts])
            self.assertEqual([equal >> world & 1 for world in range(WORLDS)], [count == number for count in counts])
