"""[52], [53], [7] Rows done again and again."""

import random
import unittest

from faceonface.errors import Stopped
from faceonface.far import far, round_of
from faceonface.stamps import Stamps
from helper import BOXES, box_of_faces, drawn, plain_row, some_face, some_faces, some_row

FACES = {"a": ("o.", ".."), "b": ("oo", "o.")}


def far_cases(seed, many, words):
    """Tuples (faces, row), the row of at most 24 deeds."""
    chance = random.Random(seed)
    told = []
    for at in range(many):
        box = chance.choice(BOXES) if at % 2 else (at // 2 % 6 + 1,) * 2
        faces = some_faces(chance, box, chance.randint(1, 6))
        own = [word for word in words if word != "press"] if len(faces) == 1 else words
        told.append((faces, some_row(chance, box, faces, chance.randint(0, 24), own)))
    return told


def gone_round(faces, row):
    """All standings till one comes again, and the place to which it comes."""
    standings = [plain_row(faces, [])]
    while True:
        behind = plain_row(standings[-1], row)
        if behind in standings:
            return standings, standings.index(behind)
        standings.append(behind)


WITHOUT = ("press", "turn", "print")
CUTS = ("press", "turn", "press", "turn", "press", "print", "cut")


class Far(unittest.TestCase):
    def test_as_told(self):
        stamps = Stamps(FACES)
        row = [("press", "a", "b"), ("turn", "a", "r1")]
        self.assertEqual(far(stamps, row, 0).faces(), FACES)
        self.assertEqual(far(stamps, row, 1).faces(), {"a": (".o", ".."), "b": ("o.", "o.")})
        self.assertEqual(far(stamps, row, 4).faces(), {"a": ("o.", ".."), "b": ("..", ".o")})
        self.assertEqual(far(stamps, row, 8).faces(), FACES)
        self.assertEqual(far(stamps, row, 10 ** 18).faces(), FACES)
        self.assertEqual(far(stamps, row, 10 ** 18 - 3).faces(), far(stamps, row, 5).faces())

    def test_small_numbers_one_by_one(self):
        for faces, row in far_cases(161, 60, WITHOUT) + far_cases(162, 60, CUTS):
            stamps = Stamps(faces)
            behind = plain_row(faces, [])
            for number in range(12):
                told = far(stamps, row, number)
                self.assertIsInstance(told, Stamps)
                self.assertEqual(list(told.faces().items()), list(behind.items()))
                behind = plain_row(behind, row)
            self.assertEqual(stamps.faces(), faces)

    def test_great_numbers_by_their_round(self):
        chance = random.Random(163)
        for faces, row in far_cases(164, 60, WITHOUT) + far_cases(165, 60, CUTS):
            standings, lead = gone_round(faces, row)
            length = len(standings) - lead
            numbers = [10 ** 18, 10 ** 18 - 1, chance.randint(0, 10 ** 18), chance.randint(0, 600), len(standings)]
            for number in numbers:
                due = number if number < len(standings) else lead + (number - lead) % length
                self.assertEqual(far(Stamps(faces), row, number).faces(), standings[due])

    def test_number_by_parts(self):
        chance = random.Random(166)
        for faces, row in far_cases(167, 40, WITHOUT) + far_cases(168, 40, CUTS):
            one, other = chance.randint(0, 10 ** 18), chance.randint(0, 1000)
            stamps = Stamps(faces)
            whole = far(stamps, row, one + other).faces()
            self.assertEqual(far(far(stamps, row, one), row, other).faces(), whole)
            self.assertEqual(far(far(stamps, row, other), row, one).faces(), whole)

    def test_cuts_are_done_each_time(self):
        row = [("press", "a", "b"), ("cut", "a", ("oo", "oo"))]
        stamps = Stamps(FACES)
        self.assertEqual(far(stamps, row, 1).faces(), {"a": ("oo", "oo"), "b": ("o.", "o.")})
        self.assertEqual(far(stamps, row, 2).faces(), {"a": ("oo", "oo"), "b": (".o", ".o")})
        self.assertEqual(far(stamps, row, 10 ** 18).faces(), {"a": ("oo", "oo"), "b": (".o", ".o")})
        self.assertEqual(far(stamps, row, 10 ** 18 - 1).faces(), {"a": ("oo", "oo"), "b": ("o.", "o.")})

    def test_no_deeds(self):
        for number in (0, 1, 10 ** 18):
            self.assertEqual(far(Stamps(FACES), [], number).faces(), FACES)


class Stops(unittest.TestCase):
    GOOD = [("press", "a", "b"), ("turn", "a", "r2"), ("print", "b"), ("cut", "b", ("..", "oo"))]
    BAD = [("press", "a", "z"), ("press", "z", "a"), ("turn", "z", "r1"), ("print", "z"), ("cut", "z", ("..", "oo")),
           ("cut", "a", ("o",)), ("cut", "a", ("...", "..."))]

    def test_stopped(self):
        for bad in self.BAD:
            for at in range(len(self.GOOD) + 1):
                row = self.GOOD[:at] + [bad] + self.GOOD[at:] + self.BAD
                kept = list(row)
                stamps = Stamps(FACES)
                for number in (1, 2, 3, 10 ** 18):
                    with self.assertRaises(ValueError) as held:
                        far(stamps, row, number)
                    self.assertIs(type(held.exception), Stopped)
                    self.assertEqual(held.exception.at, at)
                self.assertEqual(far(stamps, row, 0).faces(), FACES)
                self.assertEqual(stamps.faces(), FACES)
                self.assertEqual(row, kept)

    def test_turns_that_the_box_has_not(self):
        stamps = Stamps({"a": ("o.",), "b": ("..",)})
        row = [("turn", "a", "r2"), ("turn", "b", "r1")]
        with self.assertRaises(Stopped) as held:
            far(stamps, row, 10 ** 18)
        self.assertEqual(held.exception.at, 1)
        self.assertEqual(far(stamps, row, 0).faces(), stamps.faces())


class Round(unittest.TestCase):
    def bounds(self, faces, has_cuts):
        """The most that [7] allows of lead and length."""
        box, many = box_of_faces(faces), len(faces)
        turns, leads = (8, 5) if box[0] == box[1] else (4, 3)
        if not has_cuts:
            return 0, turns * (2 ** many - 1)
        return leads * many, 1 if many == 1 else turns * (2 ** (many - 1) - 1)

    def check(self, faces, row):
        told = round_of(Stamps(faces), row)
        standings, lead = gone_round(faces, row)
        self.assertEqual(told, (lead, len(standings) - lead))
        self.assertEqual((type(told), type(told[0]), type(told[1])), (tuple, int, int))
        most = self.bounds(faces, any(deed[0] == "cut" for deed in row))
        self.assertLessEqual(told[0], most[0])
        self.assertLessEqual(told[1], most[1])
        self.assertGreaterEqual(told[1], 1)
        return told

    def test_as_told(self):
        row = [("press", "a", "b"), ("turn", "a", "r1")]
        self.assertEqual(round_of(Stamps(FACES), row), (0, 8))
        self.assertEqual(round_of(Stamps(FACES), []), (0, 1))
        self.assertEqual(round_of(Stamps(FACES), [("print", "a")]), (0, 1))
        self.assertEqual(round_of(Stamps(FACES), [("press", "a", "b"), ("cut", "a", ("oo", "oo"))]), (1, 2))
        self.assertEqual(round_of(Stamps({"a": ("o.",)}), [("turn", "a", "r2")]), (0, 2))
        self.assertEqual(round_of(Stamps({"a": ("oo",)}), [("turn", "a", "r2")]), (0, 1))
        self.assertEqual(round_of(Stamps({"a": ("o.",)}), [("cut", "a", ("oo",))]), (1, 1))
        self.assertEqual(round_of(Stamps({"a": ("oo",)}), [("cut", "a", ("oo",))]), (0, 1))

    def test_without_cuts(self):
        lengths = {self.check(faces, row)[1] for faces, row in far_cases(171, 150, WITHOUT)}
        self.assertGreater(max(lengths), 50)

    def test_with_cuts(self):
        told = [self.check(faces, row) for faces, row in far_cases(172, 250, CUTS)]
        self.assertGreater(max(lead for lead, _ in told), 2)
        self.assertGreater(max(length for _, length in told), 10)

    def test_long_leads(self):
        # What is cut goes on from stamp to stamp, and each forgets what it had.
        chance = random.Random(173)
        names = "abcdef"
        for box in ((1, 1), (2, 2), (6, 6), (2, 1), (6, 5)):
            faces = {name: some_face(chance, box) for name in names}
            row = []
            for one, other in zip("fedcb", "edcba"):
                row += [("press", one, other), ("press", other, one), ("press", one, other)]
            lead, _ = self.check(faces, [*row, ("cut", "f", drawn(box, {(0, 0)}))])
            self.assertLessEqual(lead, 6)
        self.assertGreater(lead, 3)

    def test_the_standing_comes_again(self):
        for faces, row in far_cases(174, 30, WITHOUT) + far_cases(175, 30, CUTS):
            stamps = Stamps(faces)
            lead, length = round_of(stamps, row)
            self.assertEqual(far(stamps, row, lead).faces(), far(stamps, row, lead + length).faces())
            self.assertEqual(far(stamps, row, 10 ** 17).faces(), far(stamps, row, 10 ** 17 + length).faces())


class Own(unittest.TestCase):
    """[3]"""

    def test_handed_in_stays(self):
        for faces, row in far_cases(176, 30, CUTS):
            stamps = Stamps(faces)
            kept = list(row)
            told = far(stamps, row, 10 ** 18)
            ahead = told.faces()
            round_of(stamps, row)
            self.assertEqual((row, stamps.faces()), (kept, faces))
            row.clear()
            told.faces().clear()
            self.assertEqual(told.faces(), ahead)
            self.assertEqual(list(told.faces()), sorted(faces))
            self.assertEqual(far(stamps, kept, 10 ** 18).faces(), ahead)
