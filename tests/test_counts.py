"""[45], [6] How many standings can come."""

import itertools
import math
import random
import unittest

from faceonface.counts import some_many, standings_many
from faceonface.errors import TooFew
from faceonface.stamps import Stamps
from faceonface.wishes import answer
from helper import (BOXES, doublings_plain, drawn, least_plain, reached, some_face, some_member, sparse_face, wish_cases)


def cases(seed, many=150):
    return [faces for faces, _ in wish_cases(seed, many, least=3) if len(faces) >= least_plain(faces)]


def gaps(many, whole, least):
    """How many lists of so many rows of whole bits have sums that double least times or more, by going over all."""
    told = 0
    for rows in itertools.product(range(2 ** whole), repeat=many):
        sums = {0}
        for row in rows:
            sums |= {other ^ row for other in sums}
        told += len(sums) >= 2 ** least
    return told


class Standings(unittest.TestCase):
    def test_the_numbers_of_the_document(self):
        for faces in cases(141):
            whole, core = doublings_plain(faces)
            many, gap = len(faces), whole - core
            due = 2 ** (many * (whole - gap)) * math.prod(2 ** many - 2 ** at for at in range(gap))
            self.assertEqual(standings_many(Stamps(faces)), due)
            self.assertIs(type(standings_many(Stamps(faces))), int)

    def test_as_told(self):
        self.assertEqual(standings_many(Stamps({"a": ("o",), "b": (".",), "c": (".",)})), 7)
        self.assertEqual(standings_many(Stamps({"a": ("o.",), "b": ("..",), "c": ("..",)})), 7 * 8)
        self.assertEqual(standings_many(Stamps({"a": ("..",), "b": ("..",), "c": ("..",)})), 1)
        self.assertEqual(standings_many(Stamps({"a": ("o.", ".."), "b": ("..",) * 2, "c": ("..",) * 2})), 7 * 8 ** 3)

    def test_gone_over(self):
        """[6] Just so many come, and of some of the stamps just so many lists."""
        chance = random.Random(142)
        for box, many in (((1, 1), 3), ((1, 1), 5), ((2, 1), 3), ((1, 3), 3), ((3, 1), 3), ((2, 2), 3), ((1, 2), 4), ((4, 1), 3)):
            for _ in range(2):
                base = [some_face(chance, box) for _ in range(2)]
                faces = {name: some_member(chance, box, base) for name in "dbcea"[:many]}
                if many < least_plain(faces):
                    continue
                standings = reached(faces)
                self.assertEqual(standings_many(Stamps(faces)), len(standings))
                names = sorted(faces)
                for size in range(1, many + 1):
                    some = chance.sample(names, size)
                    lists = {tuple(standing[names.index(name)] for name in some) for standing in standings}
                    self.assertEqual(some_many(Stamps(faces), some), len(lists))

    def test_numbers_of_any_length(self):
        # The lot of a free cell of six by six doubles eight times, its core seven times.
        faces = {name: drawn((6, 6), {(1, 0)}) for name in "abcdef"}
        self.assertEqual(standings_many(Stamps(faces)), 2 ** 42 * 63)
        chance = random.Random(143)
        base = [some_face(chance, (6, 6)) for _ in range(5)]
        faces = dict(zip("abcdef", [*base, some_member(chance, (6, 6), base)]))
        self.assertGreater(standings_many(Stamps(faces)), 10 ** 50)


class Some(unittest.TestCase):
    def test_against_going_over_lists(self):
        chance = random.Random(144)
        met = 0
        for faces in cases(145):
            whole, core = doublings_plain(faces)
            gap = whole - core
            for size in range(1, len(faces) + 1):
                if gap * size <= 8:
                    met += 1
                    names = chance.sample(sorted(faces), size)
                    least = max(0, gap - (len(faces) - size))
                    due = 2 ** (size * core) * gaps(size, gap, least)
                    self.assertEqual(some_many(Stamps(faces), names), due)
        self.assertGreater(met, 50)

    def test_all_and_one(self):
        for faces in cases(146):
            stamps = Stamps(faces)
            self.assertEqual(some_many(stamps, sorted(faces)), standings_many(stamps))
            whole, core = doublings_plain(faces)
            if len(faces) > whole - core:
                for name in faces:
                    self.assertEqual(some_many(stamps, [name]), 2 ** whole)

    def test_in_any_order(self):
        chance = random.Random(147)
        for faces in cases(148):
            names = chance.sample(sorted(faces), chance.randint(1, len(faces)))
            kept = list(names)
            told = some_many(Stamps(faces), names)
            self.assertEqual(names, kept)
            self.assertEqual(some_many(Stamps(faces), names[::-1]), told)
            self.assertEqual(some_many(Stamps(faces), sorted(names)), told)

    def test_whatever_the_stamps_of_the_lot(self):
        """[6] The numbers are the same wherever a row leads."""
        for faces in cases(149, 60):
            behind = Stamps(faces)
            for deed in itertools.chain.from_iterable(
                    [("press", *pair), ("turn", pair[0], "r2")] for pair in itertools.permutations(faces, 2)):
                behind = behind.done(deed)
            self.assertEqual(standings_many(behind), standings_many(Stamps(faces)))


class Refused(unittest.TestCase):
    def few(self, faces):
        stamps = Stamps(faces)
        names = sorted(faces)
        for asked in (standings_many, lambda one: some_many(one, names[:1]), lambda one: some_many(one, names)):
            with self.assertRaises(ValueError) as held:
                asked(stamps)
            self.assertIs(type(held.exception), TooFew)
            self.assertEqual((held.exception.many, held.exception.least), (len(faces), least_plain(faces)))
        self.assertEqual(stamps.faces(), faces)
        return held.exception.least

    def test_too_few(self):
        chance = random.Random(151)
        leasts = set()
        for box, many in itertools.product(BOXES, range(1, 7)):
            faces = {name: chance.choice([sparse_face, some_face])(chance, box) for name in "abcdef"[:many]}
            if many < least_plain(faces):
                leasts.add(self.few(faces))
            else:
                standings_many(Stamps(faces))
        self.assertLessEqual({3, 4, 5, 6, 7}, leasts)

    def test_the_same_least_as_of_an_answer(self):
        for faces in ({"a": ("o",)}, {"a": (".",), "b": (".",)}, {"a": ("o..",), "b": (".o.",)},
                      {"a": ("o.....",) * 2, "b": (".o....",) * 2, "c": ("..o...",) * 2}):
            least = self.few(faces)
            with self.assertRaises(TooFew) as held:
                answer(Stamps(faces), faces)
            self.assertEqual(held.exception.least, least)
