"""Sums of numbers bit by bit, held against a going over all sums."""

import random
import unittest

from faceonface.sums import (between, evens, fresh, inverse, is_odd, made_of, plain_rows, power, product, reduced, stairs,
                              vanishing)


def sums_of(numbers):
    sums = {0}
    for number in numbers:
        sums |= {other ^ number for other in sums}
    return sums


def lists(seed):
    chance = random.Random(seed)
    return [[chance.randrange(2 ** chance.randint(0, 7)) for _ in range(chance.randint(0, 9))] for _ in range(300)]


class Sums(unittest.TestCase):
    def test_is_odd(self):
        for number in [*range(70), 2 ** 200, 2 ** 200 + 1, 10 ** 60]:
            self.assertIs(is_odd(number), bin(number).count("1") % 2 == 1)

    def test_rows_have_the_same_sums(self):
        for numbers in lists(1):
            sums = sums_of(numbers)
            for rows in (stairs(numbers), plain_rows(numbers)):
                self.assertEqual(sums_of(rows), sums)
                self.assertEqual(2 ** len(rows), len(sums))

    def test_plain_rows(self):
        for numbers in lists(2):
            rows = plain_rows(numbers)
            self.assertEqual(rows, sorted(rows, reverse=True))
            for row in rows:
                highest = 1 << (row.bit_length() - 1)
                self.assertEqual([other for other in rows if other & highest], [row])

    def test_reduced_and_fresh(self):
        for numbers, others in zip(lists(3), lists(4)):
            rows = stairs(numbers)
            for other in others:
                self.assertEqual(reduced(rows, other) == 0, other in sums_of(numbers))
            due = [at for at, other in enumerate(others) if other not in sums_of(numbers + others[:at])]
            self.assertEqual(fresh(numbers, others), due)

    def test_vanishing(self):
        for firsts, seconds in zip(lists(5), lists(6)):
            pairs = list(zip(firsts, seconds))
            due = {other & 127 for other in sums_of([first << 7 | second for first, second in pairs]) if other < 128}
            self.assertEqual(sums_of(vanishing(pairs, 7)), due)

    def test_evens(self):
        for numbers in lists(13)[:60]:
            due = {other for other in range(128) if all(bin(other & number).count("1") % 2 == 0 for number in numbers)}
            rows = evens(numbers, 7)
            self.assertEqual(sums_of(rows), due)
            self.assertEqual(rows, plain_rows(rows))

    def test_between(self):
        found = 0
        for numbers, others in zip(lists(14), lists(15)):
            rows = plain_rows(numbers)
            for other in others:
                if other not in sums_of(numbers):
                    found += 1
                    told = between(rows, other)
                    self.assertFalse(any(bin(told & number).count("1") % 2 for number in numbers))
                    self.assertEqual(bin(told & other).count("1") % 2, 1)
        self.assertGreater(found, 300)

    def test_made_of(self):
        for numbers in lists(7):
            for wanted in sorted(sums_of(numbers))[:20]:
                places = made_of(numbers, wanted)
                self.assertEqual(places, sorted(set(places)))
                self.assertLessEqual(len(places), len(stairs(numbers)))
                total = 0
                for at in places:
                    total ^= numbers[at]
                self.assertEqual(total, wanted)


def squares(seed):
    """Lists of as many rows as they have bits."""
    chance = random.Random(seed)
    return [[chance.randrange(2 ** size) for _ in range(size)] for size in range(1, 9) for _ in range(20)]


def units(size):
    return [1 << at for at in range(size)]


class Products(unittest.TestCase):
    def test_product(self):
        self.assertEqual(product([0b01, 0b10, 0b11, 0b00], [5, 6]), [5, 6, 3, 0])
        for rows in squares(8):
            self.assertEqual(product(rows, units(len(rows))), rows)
            self.assertEqual(product(units(len(rows)), rows), rows)

    def test_power(self):
        for rows in squares(9):
            told = units(len(rows))
            for number in range(10):
                self.assertEqual(power(rows, number), told)
                told = product(rows, told)

    def test_inverse(self):
        found = set()
        for rows in squares(10):
            back = inverse(rows)
            found.add(back is None)
            self.assertEqual(back is None, len(stairs(rows)) < len(rows))
            if back is not None:
                self.assertEqual(product(back, rows), units(len(rows)))
                self.assertEqual(product(rows, back), units(len(rows)))
        self.assertEqual(found, {True, False})
