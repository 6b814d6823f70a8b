"""[22], [23] Rows done, led back and printed."""

import random
import unittest

from faceonface.errors import Stopped
from faceonface.faces import blank
from faceonface.rows import done_row, led_back, prints, shown
from faceonface.stamps import Stamps
from helper import BOXES, cases, plain_row, prints_plain, shown_plain, some_face, some_faces, some_row, turned_plain

FACES = {"b": ("..o", "o..", "..."), "a": ("oo.", "...", "..o")}
ALL_SORTS = [("press", "a", "b"), ("turn", "b", "r1"), ("print", "b"), ("cut", "a", ("ooo", ".o.", "...")),
             ("press", "b", "a"), ("turn", "a", "r2"), ("print", "a"), ("turn", "b", "r3")]


def led_back_plain(faces, row):
    """The row that leads back, each face that was there reckoned from the beginning."""
    told = []
    for at, deed in reversed(list(enumerate(row))):
        if deed[0] == "press":
            told.append(deed)
        elif deed[0] == "turn":
            told.append(("turn", deed[1], {"r1": "r3", "r2": "r2", "r3": "r1"}[deed[2]]))
        elif deed[0] == "cut":
            told.append(("cut", deed[1], plain_row(faces, row[:at])[deed[1]]))
    return told


class Done(unittest.TestCase):
    def test_no_deeds(self):
        told = done_row(Stamps(FACES), [])
        self.assertIsInstance(told, Stamps)
        self.assertEqual(list(told.faces().items()), [("a", FACES["a"]), ("b", FACES["b"])])

    def test_as_told(self):
        told = done_row(Stamps({"a": ("o.",), "b": ("..",)}),
                        [("press", "a", "b"), ("turn", "a", "r2"), ("press", "a", "b"), ("print", "a")])
        self.assertEqual(told.faces(), {"a": (".o",), "b": ("oo",)})

    def test_all_sorts(self):
        for _, faces, row in cases(300, length=30) + [((3, 3), FACES, ALL_SORTS)]:
            stamps = Stamps(faces)
            kept = list(row)
            told = done_row(stamps, row)
            self.assertEqual(list(told.faces().items()), list(plain_row(faces, row).items()))
            self.assertEqual(stamps.faces(), faces)
            self.assertEqual(row, kept)

    def test_as_deed_by_deed(self):
        for _, faces, row in cases(50, length=20):
            stamps = Stamps(faces)
            for deed in row:
                stamps = stamps.done(deed)
            self.assertEqual(done_row(Stamps(faces), row).faces(), stamps.faces())

    def test_twenty_thousand_deeds(self):
        chance = random.Random(31)
        for box in ((6, 6), (6, 5), (1, 1)):
            faces = some_faces(chance, box, 6)
            row = some_row(chance, box, faces, 20000)
            self.assertEqual(done_row(Stamps(faces), row).faces(), plain_row(faces, row))


class LedBack(unittest.TestCase):
    def test_as_told(self):
        self.assertEqual(led_back(Stamps(FACES), ALL_SORTS), [
            ("turn", "b", "r1"), ("turn", "a", "r2"), ("press", "b", "a"), ("cut", "a", ("oo.", "...", "..o")),
            ("turn", "b", "r3"), ("press", "a", "b"),
        ])

    def test_no_deeds_and_prints_alone(self):
        self.assertEqual(led_back(Stamps(FACES), []), [])
        self.assertEqual(led_back(Stamps(FACES), [("print", "a"), ("print", "b")]), [])

    def test_cuts_of_one_stamp_behind_one_another(self):
        x, y = ("ooo",) * 3, ("...",) * 3
        self.assertEqual(led_back(Stamps(FACES), [("cut", "a", x), ("cut", "a", y), ("cut", "b", x)]),
                         [("cut", "b", FACES["b"]), ("cut", "a", x), ("cut", "a", FACES["a"])])

    def test_all_sorts(self):
        for _, faces, row in cases(200):
            stamps = Stamps(faces)
            kept = list(row)
            told = led_back(stamps, row)
            self.assertIs(type(told), list)
            self.assertEqual(told, led_back_plain(faces, row))
            self.assertEqual(done_row(done_row(stamps, row), told).faces(), faces)
            self.assertEqual(stamps.faces(), faces)
            self.assertEqual(row, kept)

    def test_twelve_hundred_deeds(self):
        chance = random.Random(32)
        for box in ((6, 6), (4, 6)):
            faces = some_faces(chance, box, 6)
            row = some_row(chance, box, faces, 1200)
            told = led_back(Stamps(faces), row)
            self.assertEqual(len(told), len([deed for deed in row if deed[0] != "print"]))
            self.assertEqual(done_row(done_row(Stamps(faces), row), told).faces(), faces)


class Shown(unittest.TestCase):
    def test_as_told(self):
        self.assertEqual(shown(("oo.", "o.."), ("ooo", "ooo")), (".oo", "..o"))
        self.assertEqual(shown(("oo.", "o.."), ("oo.", "..o")), (".o.", "..o"))
        self.assertEqual(shown(("oo.", "o.."), ("o..", "oo.")), ("...", "..."))
        self.assertEqual(shown(("oo.", "o.."), ("...", "...")), ("...", "..."))

    def test_each_box(self):
        chance = random.Random(33)
        for box in BOXES * 3:
            face, pane = some_face(chance, box), some_face(chance, box)
            self.assertEqual(shown(face, pane), shown_plain(face, pane))
            self.assertEqual(shown(face, blank(box)), blank(box))
            self.assertEqual(shown(face, ("o" * box[0],) * box[1]), turned_plain(face, "m0"))


class Prints(unittest.TestCase):
    def test_as_told(self):
        row = [("print", "a"), ("press", "b", "a"), ("print", "b"), ("print", "a"), ("print", "a")]
        stamps = Stamps({"a": ("oo.",), "b": (".o.",)})
        full = ("ooo",)
        self.assertEqual(prints(stamps, row, {"a": full, "b": full}), [(".oo",), (".o.",), ("..o",), ("..o",)])
        self.assertEqual(prints(stamps, row, {"a": full}), [(".oo",), ("...",), ("..o",), ("..o",)])
        self.assertEqual(prints(stamps, row, {"b": full}), [("...",), (".o.",), ("...",), ("...",)])
        self.assertEqual(prints(stamps, row, {"a": (".o.",)}), [(".o.",), ("...",), ("...",), ("...",)])
        self.assertEqual(prints(stamps, row, {}), [("...",)] * 4)
        self.assertEqual(prints(stamps, row, {"c": full, "d": full}), [("...",)] * 4)

    def test_no_prints(self):
        self.assertEqual(prints(Stamps(FACES), [], {}), [])
        self.assertEqual(prints(Stamps(FACES), [("press", "a", "b"), ("turn", "a", "r1")], {"a": ("ooo",) * 3}), [])

    def test_the_face_that_stands_at_the_print(self):
        row = [("cut", "a", ("o.",)), ("print", "a"), ("cut", "a", ("oo",)), ("print", "a"), ("turn", "a", "r2"),
               ("cut", "a", ("..",)), ("print", "a"), ("cut", "a", (".o",))]
        self.assertEqual(prints(Stamps({"a": ("..",)}), row, {"a": ("oo",)}), [(".o",), ("oo",), ("..",)])

    def test_all_sorts(self):
        chance = random.Random(34)
        for box, faces, row in cases(200, length=20):
            paned = [name for name in [*faces, "other", "q"] if chance.randint(0, 2)]
            panes = {name: some_face(chance, box) for name in paned}
            kept = (list(row), list(panes.items()))
            told = prints(Stamps(faces), row, panes)
            self.assertIs(type(told), list)
            self.assertEqual(told, prints_plain(faces, row, panes))
            self.assertEqual((row, list(panes.items())), kept)

    def test_twelve_hundred_deeds(self):
        chance = random.Random(35)
        faces = some_faces(chance, (6, 6), 6)
        row = some_row(chance, (6, 6), faces, 1200)
        panes = {name: some_face(chance, (6, 6)) for name in sorted(faces)[1:]}
        told = prints(Stamps(faces), row, panes)
        places = [at for at, deed in enumerate(row) if deed[0] == "print"]
        self.assertEqual(len(told), len(places))
        for number in (0, 1, len(places) // 2, len(places) - 1):
            name = row[places[number]][1]
            face = plain_row(faces, row[:places[number]])[name]
            self.assertEqual(told[number], shown_plain(face, panes.get(name, blank((6, 6)))))


class Refused(unittest.TestCase):
    SQUARE = [("press", "z", "a"), ("press", "a", "z"), ("turn", "z", "r1"), ("cut", "z", ("ooo",) * 3), ("print", "z"),
              ("cut", "a", ("ooo",) * 2), ("cut", "a", ("o",))]
    WIDE = [("turn", "a", "r1"), ("turn", "b", "r3"), ("cut", "a", ("o", ".")), ("turn", "z", "r1")]

    def refused(self, stamps, row, at):
        kept, faces = list(row), stamps.faces()
        for asked in (done_row, led_back, lambda ahead, deeds: prints(ahead, deeds, {"a": ("ooo",) * 3})):
            with self.assertRaises(ValueError) as held:
                asked(stamps, row)
            self.assertIs(type(held.exception), Stopped)
            self.assertEqual(held.exception.at, at)
            self.assertIs(type(held.exception.at), int)
        self.assertEqual(row, kept)
        self.assertEqual(stamps.faces(), faces)
        good = [deed for place, deed in enumerate(row) if place < at]
        self.assertEqual(done_row(stamps, good).faces(), plain_row(faces, good))

    def test_each_refusal_in_each_place(self):
        for bad in self.SQUARE:
            for at in range(len(ALL_SORTS) + 1):
                self.refused(Stamps(FACES), ALL_SORTS[:at] + [bad] + ALL_SORTS[at:], at)

    def test_the_first_of_several(self):
        for bad in self.SQUARE:
            self.refused(Stamps(FACES), [("print", "a"), bad, ("print", "a"), *self.SQUARE], 1)
        self.refused(Stamps(FACES), list(self.SQUARE), 0)

    def test_a_box_that_is_not_square(self):
        good = [("press", "a", "b"), ("turn", "a", "r2"), ("print", "b")]
        for bad in self.WIDE:
            self.refused(Stamps({"a": ("o.",), "b": ("oo",)}), good + [bad] + good, 3)

    def test_the_last_of_a_thousand(self):
        self.refused(Stamps(FACES), [("press", "a", "b")] * 1000 + [("print", "c")], 1000)


class Own(unittest.TestCase):
    """[3] What is handed in and told."""

    def test_told_is_the_askers_own(self):
        stamps = Stamps(FACES)
        panes = {"a": ("ooo",) * 3}
        back, seen = led_back(stamps, ALL_SORTS), prints(stamps, ALL_SORTS, panes)
        kept = (list(back), list(seen))
        back.clear()
        seen.append(None)
        self.assertEqual((led_back(stamps, ALL_SORTS), prints(stamps, ALL_SORTS, panes)), kept)

    def test_handed_in_is_changed_behind_the_call(self):
        faces, row, panes = dict(FACES), list(ALL_SORTS), {"a": ("ooo",) * 3, "b": ("o.o",) * 3}
        stamps = Stamps(faces)
        behind, back, seen = done_row(stamps, row), led_back(stamps, row), prints(stamps, row, panes)
        kept = (behind.faces(), list(back), list(seen))
        row.clear()
        panes["a"] = ("...",) * 3
        faces["a"] = ("...",) * 3
        self.assertEqual((behind.faces(), back, seen), kept)
        self.assertEqual(behind.faces(), done_row(stamps, list(ALL_SORTS)).faces())

    def test_the_row_led_back_is_not_the_row(self):
        row = [("press", "a", "b")]
        back = led_back(Stamps(FACES), row)
        back.append(("print", "a"))
        self.assertEqual(row, [("press", "a", "b")])

    def test_panes_in_any_order(self):
        panes = {"a": ("ooo",) * 3, "b": ("o.o",) * 3}
        turned_round = dict(reversed(list(panes.items())))
        self.assertEqual(prints(Stamps(FACES), ALL_SORTS, panes), prints(Stamps(FACES), ALL_SORTS, turned_round))
