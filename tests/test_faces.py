"""[2], [13], [14], [15] Faces turned, laid over one another, and combs."""

import itertools
import random
import unittest

from faceonface.faces import blank, box_of, face_of, is_even, laid, turned, ups
from faceonface.turnings import both, turnings_of, undone
from helper import BOXES, TURNINGS, all_faces, cells_of, drawn, moved, some_face, turned_plain, up_cells


def tried_faces(seed):
    """For each box the blank face, the full one and some others."""
    chance = random.Random(seed)
    told = []
    for box in BOXES:
        told += [drawn(box, set()), drawn(box, set(cells_of(box)))] + [some_face(chance, box) for _ in range(4)]
    return told


class Turned(unittest.TestCase):
    def test_as_told(self):
        self.assertEqual(turned(("oo.", "..."), "r1"), (".o", ".o", ".."))
        self.assertEqual(turned(("oo.", "..."), "r3"), ("..", "o.", "o."))
        self.assertEqual(turned(("oo.", "..."), "m0"), (".oo", "..."))
        self.assertEqual(turned(("oo.", "..."), "r2"), ("...", ".oo"))
        self.assertEqual(turned(("oo.", "..."), "m1"), ("..", ".o", ".o"))
        self.assertEqual(turned(("oo.", "..."), "m2"), ("...", "oo."))
        self.assertEqual(turned(("oo.", "..."), "m3"), ("o.", "o.", ".."))
        self.assertEqual(turned(("oo.", "..."), "r0"), ("oo.", "..."))

    def test_each_cell_of_each_box(self):
        for box, turning in itertools.product(BOXES, TURNINGS):
            for cell in cells_of(box):
                there, place = moved(box, cell, turning)
                told = turned(drawn(box, {cell}), turning)
                self.assertEqual(told, drawn(there, {place}))
                self.assertIs(type(told), tuple)

    def test_whole_faces(self):
        for face in tried_faces(1):
            for turning in TURNINGS:
                self.assertEqual(turned(face, turning), turned_plain(face, turning))

    def test_box_of(self):
        for box in BOXES:
            face = drawn(box, {(0, 0)})
            self.assertEqual(box_of(face), box)
            self.assertEqual(box_of(turned(face, "r1")), (box[1], box[0]))
            self.assertEqual(box_of(turned(face, "m0")), box)

    def test_the_turnings_of_a_box_keep_it(self):
        for face in tried_faces(2):
            keeping = [turning for turning in TURNINGS if box_of(turned(face, turning)) == box_of(face)]
            self.assertEqual(keeping, turnings_of(box_of(face)))

    def test_led_back(self):
        for face in tried_faces(3):
            quarters = face
            for _ in range(4):
                quarters = turned(quarters, "r1")
            self.assertEqual(quarters, face)
            self.assertEqual(turned(turned(face, "m0"), "m0"), face)
            for turning in TURNINGS:
                self.assertEqual(turned(turned(face, turning), undone(turning)), face)
                self.assertEqual(turned(turned(face, undone(turning)), turning), face)

    def test_both(self):
        for face in tried_faces(4):
            for one, other in itertools.product(TURNINGS, repeat=2):
                self.assertEqual(turned(face, both(one, other)), turned(turned(face, one), other))


class Laid(unittest.TestCase):
    def test_blank(self):
        self.assertEqual(blank((3, 2)), ("...", "..."))
        for box in BOXES:
            self.assertEqual(blank(box), drawn(box, set()))
            self.assertIs(type(blank(box)), tuple)
            self.assertEqual(box_of(blank(box)), box)

    def test_none(self):
        for box in BOXES:
            self.assertEqual(laid(box, []), drawn(box, set()))

    def test_one_and_two_alike(self):
        for face in tried_faces(5):
            box = box_of(face)
            none = drawn(box, set())
            self.assertEqual(laid(box, [face]), face)
            self.assertEqual(laid(box, [face, face]), none)
            self.assertEqual(laid(box, [face, face, face]), face)
            self.assertEqual(laid(box, [none, face, none]), face)
            self.assertEqual(laid(box, [none]), none)

    def test_two_of_every_small_one(self):
        for one, other in itertools.product(all_faces((2, 2)), repeat=2):
            self.assertEqual(laid((2, 2), [one, other]), drawn((2, 2), up_cells(one) ^ up_cells(other)))

    def test_several_in_any_order(self):
        chance = random.Random(6)
        for box in BOXES:
            faces = [some_face(chance, box) for _ in range(4)]
            odd = {cell for cell in cells_of(box) if sum(cell in up_cells(face) for face in faces) % 2 == 1}
            for order in itertools.permutations(faces):
                self.assertEqual(laid(box, list(order)), drawn(box, odd))

    def test_a_great_many(self):
        face = ("o.o", ".oo")
        self.assertEqual(laid((3, 2), [face] * 2001), face)
        self.assertEqual(laid((3, 2), [face] * 2000), ("...", "..."))

    def test_handed_in_stays(self):
        faces = [("o.",), (".o",), ("oo",)]
        laid((2, 1), faces)
        self.assertEqual(faces, [("o.",), (".o",), ("oo",)])

    def test_turned_together(self):
        chance = random.Random(7)
        for box, turning in itertools.product(BOXES, TURNINGS):
            one, other = some_face(chance, box), some_face(chance, box)
            there = moved(box, (0, 0), turning)[0]
            self.assertEqual(turned(laid(box, [one, other]), turning),
                             laid(there, [turned(one, turning), turned(other, turning)]))


class Cells(unittest.TestCase):
    def test_ups_as_told(self):
        self.assertEqual(ups((".oo", "o.o")), [(1, 0), (2, 0), (0, 1), (2, 1)])

    def test_ups_in_order(self):
        for face in tried_faces(8):
            told = ups(face)
            self.assertIs(type(told), list)
            self.assertEqual(told, [cell for cell in cells_of(box_of(face)) if cell in up_cells(face)])
            self.assertEqual(told, sorted(told, key=lambda cell: (cell[1], cell[0])))

    def test_ups_are_new(self):
        face = ("oo", "o.")
        ups(face).clear()
        self.assertEqual(ups(face), [(0, 0), (1, 0), (0, 1)])

    def test_face_of_in_any_order_and_twice(self):
        chance = random.Random(9)
        for face in tried_faces(10):
            cells = ups(face)
            chance.shuffle(cells)
            self.assertEqual(face_of(box_of(face), cells), face)
            twice = cells + cells[:3] + cells[::-1]
            kept = list(twice)
            self.assertEqual(face_of(box_of(face), twice), face)
            self.assertEqual(twice, kept)

    def test_face_of_edges(self):
        for box in BOXES:
            self.assertEqual(face_of(box, []), blank(box))
            self.assertEqual(face_of(box, cells_of(box)), ("o" * box[0],) * box[1])
            for cell in cells_of(box):
                self.assertEqual(face_of(box, [cell]), drawn(box, {cell}))
                self.assertEqual(face_of(box, [cell, cell]), drawn(box, {cell}))
                self.assertEqual(ups(face_of(box, [cell])), [cell])

    def test_sorted_by_their_cells_flat_ahead_of_up(self):
        for box in ((3, 2), (2, 3), (1, 4), (4, 1)):
            by_cells = sorted(all_faces(box), key=lambda face: [cell in up_cells(face) for cell in cells_of(box)])
            self.assertEqual(sorted(all_faces(box)), by_cells)
            self.assertEqual(by_cells[0], blank(box))


class Even(unittest.TestCase):
    def test_every_small_one(self):
        for comb, face in itertools.product(all_faces((2, 2)), repeat=2):
            self.assertIs(is_even(comb, face), len(up_cells(comb) & up_cells(face)) % 2 == 0)

    def test_each_box(self):
        chance = random.Random(11)
        for box in BOXES * 3:
            comb, face = some_face(chance, box), some_face(chance, box)
            truth = len(up_cells(comb) & up_cells(face)) % 2 == 0
            self.assertIs(is_even(comb, face), truth)
            self.assertIs(is_even(face, comb), truth)
            for turning in TURNINGS:
                self.assertIs(is_even(turned(comb, turning), turned(face, turning)), truth)

    def test_blank_and_full(self):
        for box in BOXES:
            full = ("o" * box[0],) * box[1]
            self.assertIs(is_even(blank(box), full), True)
            self.assertIs(is_even(full, blank(box)), True)
            self.assertIs(is_even(full, full), box[0] * box[1] % 2 == 0)

    def test_over_faces_laid(self):
        chance = random.Random(12)
        for box in BOXES:
            comb, one, other = [some_face(chance, box) for _ in range(3)]
            self.assertIs(is_even(comb, laid(box, [one, other])), is_even(comb, one) == is_even(comb, other))
