"""[6], [8], [9], [24] What holds of all rows."""

import itertools
import random
import unittest

from faceonface.faces import laid, turned
from faceonface.kinds import is_deed
from faceonface.rows import done_row, led_back
from faceonface.stamps import Stamps
from helper import BOXES, cases, some_face, some_faces, some_row, turned_plain

PRESS_AND_TURN = ("press", "turn")


def faces_done(faces, row):
    return done_row(Stamps(faces), row).faces()


class ThreePresses(unittest.TestCase):
    """[24]"""

    def pairs(self):
        chance = random.Random(41)
        for box in BOXES:
            yield {"a": some_face(chance, box), "b": some_face(chance, box), "c": some_face(chance, box)}

    def test_three_by_turns(self):
        for faces in self.pairs():
            there, back = ("press", "a", "b"), ("press", "b", "a")
            exchanged = {"a": turned_plain(faces["b"], "m0"), "b": turned_plain(faces["a"], "m0"), "c": faces["c"]}
            self.assertEqual(faces_done(faces, [there, back, there]), exchanged)
            self.assertEqual(faces_done(faces, [back, there, back]), exchanged)

    def test_six_by_turns(self):
        for faces in self.pairs():
            there, back = ("press", "a", "b"), ("press", "b", "a")
            self.assertEqual(faces_done(faces, [there, back] * 3), faces)
            self.assertEqual(faces_done(faces, [back, there] * 3), faces)

    def test_a_thousand_by_turns(self):
        for faces in self.pairs():
            there, back = ("press", "a", "b"), ("press", "b", "a")
            self.assertEqual(faces_done(faces, [there, back] * 501), faces)
            behind = faces_done(faces, [there, back] * 501 + [there])
            self.assertEqual(behind, faces_done(faces, [there]))
            self.assertEqual(faces_done(faces, [there] * 1000), faces)
            self.assertEqual(faces_done(faces, [there] * 1001), faces_done(faces, [there]))


def stamps_of(deed):
    return set(deed[1:3] if deed[0] == "press" else deed[1:2])


class EitherOrder(unittest.TestCase):
    """[9]"""

    def either(self, faces, one, other):
        self.assertEqual(faces_done(faces, [one, other]), faces_done(faces, [other, one]))

    def test_two_presses_by_one_stamp_and_on_one_stamp(self):
        chance = random.Random(42)
        for box in BOXES:
            faces = some_faces(chance, box, 4)
            for one, other, third in itertools.permutations(faces, 3):
                self.either(faces, ("press", one, other), ("press", one, third))
                self.either(faces, ("press", one, third), ("press", other, third))

    def test_two_deeds_without_a_stamp_in_common(self):
        chance = random.Random(43)
        met = 0
        for box in BOXES * 4:
            faces = some_faces(chance, box, 6)
            for one, other in itertools.combinations(some_row(chance, box, faces, 12), 2):
                if not stamps_of(one) & stamps_of(other):
                    met += 1
                    self.either(faces, one, other)
        self.assertGreater(met, 1000)


class LeadsBack(unittest.TestCase):
    """[6]"""

    def test_rows_of_presses_and_turns(self):
        for _, faces, row in cases(200, PRESS_AND_TURN, length=60):
            back = led_back(Stamps(faces), row)
            self.assertTrue(all(is_deed(deed) and deed[0] in PRESS_AND_TURN for deed in back))
            self.assertEqual(len(back), len(row))
            self.assertEqual(faces_done(faces_done(faces, row), back), faces)
            self.assertEqual(faces_done(faces_done(faces, back), row), faces)

    def test_hangs_on_the_row_alone(self):
        chance = random.Random(44)
        for box, faces, row in cases(100, PRESS_AND_TURN):
            others = {name: some_face(chance, box) for name in faces}
            self.assertEqual(led_back(Stamps(faces), row), led_back(Stamps(others), row))


class Whole(unittest.TestCase):
    """[8]"""

    def test_laid_over_one_another(self):
        chance = random.Random(45)
        for box, ones, row in cases(200, ("press", "turn", "print"), length=30):
            others = {name: some_face(chance, box) for name in ones}
            over = {name: laid(box, [ones[name], others[name]]) for name in ones}
            one, other = faces_done(ones, row), faces_done(others, row)
            self.assertEqual(faces_done(over, row), {name: laid(box, [one[name], other[name]]) for name in one})

    def test_turned_by_two_quarters(self):
        for _, faces, row in cases(200, length=30):
            half = {name: turned(face, "r2") for name, face in faces.items()}
            half_row = [(*deed[:2], turned(deed[2], "r2")) if deed[0] == "cut" else deed for deed in row]
            behind = faces_done(faces, row)
            self.assertEqual(faces_done(half, half_row), {name: turned(behind[name], "r2") for name in behind})

    def test_names_exchanged(self):
        chance = random.Random(46)
        for _, faces, row in cases(200, length=30):
            names = sorted(faces)
            others = dict(zip(names, chance.sample(names, len(names))))
            renamed = [(deed[0], *[others[part] for part in deed[1:3]]) if deed[0] == "press"
                       else (deed[0], others[deed[1]], *deed[2:]) for deed in row]
            behind = faces_done(faces, row)
            told = faces_done({others[name]: face for name, face in faces.items()}, renamed)
            self.assertEqual(told, {others[name]: face for name, face in behind.items()})
