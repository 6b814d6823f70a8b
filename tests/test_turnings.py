"""[13], [14] Turnings."""

import itertools
import unittest

from faceonface.turnings import both, turnings_of, undone
from helper import BOXES, TURNINGS, cells_of, moved


def way(turning):
    """To where a turning brings each cell of a square of two by two: unlike for unlike turnings."""
    return [moved((2, 2), cell, turning)[1] for cell in cells_of((2, 2))]


def way_of_both(one, other):
    return [moved((2, 2), moved((2, 2), cell, one)[1], other)[1] for cell in cells_of((2, 2))]


class Both(unittest.TestCase):
    def test_ways_tell_turnings_apart(self):
        self.assertEqual(len({tuple(way(turning)) for turning in TURNINGS}), 8)

    def test_as_told(self):
        self.assertEqual(both("r1", "m0"), "m3")
        self.assertEqual(both("m0", "r1"), "m1")

    def test_all_pairs(self):
        for one, other in itertools.product(TURNINGS, repeat=2):
            told = both(one, other)
            self.assertIn(told, TURNINGS)
            self.assertEqual(way(told), way_of_both(one, other))

    def test_three_in_either_grouping(self):
        for one, other, third in itertools.product(TURNINGS, repeat=3):
            self.assertEqual(both(both(one, other), third), both(one, both(other, third)))


class Undone(unittest.TestCase):
    def test_each(self):
        told = [undone(turning) for turning in TURNINGS]
        self.assertEqual(told, ["m0", "m1", "m2", "m3", "r0", "r3", "r2", "r1"])

    def test_leads_back_from_either_side(self):
        for turning in TURNINGS:
            self.assertEqual(both(turning, undone(turning)), "r0")
            self.assertEqual(both(undone(turning), turning), "r0")
            self.assertEqual(undone(undone(turning)), turning)

    def test_of_both(self):
        for one, other in itertools.product(TURNINGS, repeat=2):
            self.assertEqual(undone(both(one, other)), both(undone(other), undone(one)))


class OfABox(unittest.TestCase):
    def test_each_box(self):
        for box in BOXES:
            whole = ["m0", "m1", "m2", "m3", "r0", "r1", "r2", "r3"]
            self.assertEqual(turnings_of(box), whole if box[0] == box[1] else ["m0", "m2", "r0", "r2"])

    def test_those_that_keep_the_box(self):
        for box in BOXES:
            self.assertEqual(turnings_of(box), [turning for turning in TURNINGS if moved(box, (0, 0), turning)[0] == box])

    def test_new_each_time(self):
        for box in BOXES:
            told = turnings_of(box)
            self.assertIs(type(told), list)
            kept = list(told)
            told.append("r9")
            told[0] = "x"
            self.assertEqual(turnings_of(box), kept)
            turnings_of(box).clear()
            self.assertEqual(turnings_of(box), kept)
