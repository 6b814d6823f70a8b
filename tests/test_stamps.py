"""[4], [20], [21] Stamps and what comes of a deed."""

import itertools
import random
import unittest

from faceonface.errors import NoName, Unfit, Wrong
from faceonface.kinds import is_deed
from faceonface.stamps import Stamps
from helper import BOXES, Plain, cases, deep, odd_things, plain_row, same, snapshot, some_face, turned_plain

ONE = ("oo.", "...", "..o")
TWO = ("..o", "o..", "...")
WIDE = ("oo.", "..o")


def two():
    return Stamps({"b": TWO, "a": ONE})


class Told(unittest.TestCase):
    def test_as_made(self):
        stamps = two()
        self.assertEqual(stamps.box(), (3, 3))
        self.assertEqual(stamps.names(), ["a", "b"])
        self.assertEqual(stamps.faces(), {"a": ONE, "b": TWO})
        self.assertEqual(list(stamps.faces()), ["a", "b"])
        self.assertEqual(stamps.face("a"), ONE)
        self.assertEqual(stamps.face("b"), TWO)

    def test_kinds(self):
        stamps = two()
        self.assertIs(type(stamps.box()), tuple)
        self.assertIs(type(stamps.names()), list)
        self.assertIs(type(stamps.faces()), dict)
        self.assertIs(type(stamps.face("a")), tuple)

    def test_all_sorts(self):
        for box, faces, _ in cases(80):
            stamps = Stamps(faces)
            self.assertEqual(stamps.box(), box)
            self.assertEqual(stamps.names(), sorted(faces))
            self.assertEqual(stamps.faces(), faces)
            self.assertEqual(list(stamps.faces()), sorted(faces))
            for name in faces:
                self.assertEqual(stamps.face(name), faces[name])

    def test_one_to_six_of_each_box(self):
        for box in BOXES:
            for many in range(1, 7):
                stamps = Stamps({name: ("o" * box[0],) * box[1] for name in "fedcba"[:many]})
                self.assertEqual((stamps.box(), len(stamps.names())), (box, many))

    def test_whatever_the_order_of_names(self):
        faces = {"a": ONE, "b": TWO, "c": ONE, "dd": TWO}
        first = Stamps(faces)
        for order in itertools.permutations(faces):
            stamps = Stamps({name: faces[name] for name in order})
            self.assertEqual(stamps.names(), first.names())
            self.assertEqual(list(stamps.faces().items()), list(first.faces().items()))
            deed = ("press", "a", "dd")
            self.assertEqual(list(stamps.done(deed).faces().items()), list(first.done(deed).faces().items()))

    def test_face_of_no_stamp(self):
        for name in ("c", "aa", "abcdefgh"):
            with self.assertRaises(NoName) as held:
                two().face(name)
            self.assertEqual(held.exception.name, name)


class Own(unittest.TestCase):
    """[3] What is handed in and told."""

    def test_handed_in_stays_and_is_not_held(self):
        faces = {"b": TWO, "a": ONE}
        kept = list(faces.items())
        stamps = Stamps(faces)
        stamps.done(("press", "a", "b"))
        self.assertEqual(list(faces.items()), kept)
        faces["a"] = TWO
        faces["c"] = ONE
        del faces["b"]
        self.assertEqual(stamps.faces(), {"a": ONE, "b": TWO})
        self.assertEqual(stamps.names(), ["a", "b"])

    def test_told_is_the_askers_own(self):
        stamps = two()
        stamps.names().append("c")
        stamps.names().reverse()
        stamps.faces()["a"] = TWO
        stamps.faces().clear()
        self.assertEqual(stamps.names(), ["a", "b"])
        self.assertEqual(stamps.faces(), {"a": ONE, "b": TWO})
        self.assertEqual(stamps.face("a"), ONE)

    def test_stamps_behind_a_deed_are_others(self):
        for deed in (("press", "a", "b"), ("turn", "a", "r1"), ("cut", "a", TWO), ("print", "a")):
            stamps = two()
            behind = stamps.done(deed)
            kept = behind.faces()
            behind.faces()["a"] = ("ooo",) * 3
            self.assertEqual(stamps.faces(), {"a": ONE, "b": TWO})
            stamps.done(("cut", "a", ("ooo",) * 3)).done(("cut", "b", ("ooo",) * 3))
            self.assertEqual(behind.faces(), kept)


class Done(unittest.TestCase):
    def done(self, deed, a=ONE, b=TWO):
        stamps = two().done(deed)
        self.assertIsInstance(stamps, Stamps)
        self.assertEqual(list(stamps.faces().items()), [("a", a), ("b", b)])

    def test_press(self):
        self.done(("press", "a", "b"), b=(".o.", "o..", "o.."))
        self.done(("press", "b", "a"), a=(".o.", "..o", "..o"))

    def test_press_in_a_box_that_is_not_square(self):
        stamps = Stamps({"x": WIDE, "y": ("...", "...")}).done(("press", "x", "y"))
        self.assertEqual(stamps.faces(), {"x": WIDE, "y": (".oo", "o..")})

    def test_press_of_one_wide(self):
        stamps = Stamps({"x": ("o", ".", "o"), "y": ("o", "o", ".")}).done(("press", "x", "y"))
        self.assertEqual(stamps.faces(), {"x": ("o", ".", "o"), "y": (".", "o", "o")})

    def test_turn(self):
        self.done(("turn", "a", "r1"), a=("..o", "..o", "o.."))
        self.done(("turn", "a", "r2"), a=("o..", "...", ".oo"))
        self.done(("turn", "b", "r3"), b=("o..", "...", ".o."))

    def test_cut_and_print(self):
        self.done(("cut", "a", TWO), a=TWO)
        self.done(("cut", "b", ("...",) * 3), b=("...",) * 3)
        self.done(("cut", "b", TWO))
        self.done(("print", "a"))
        self.done(("print", "b"))

    def test_all_sorts_cell_by_cell(self):
        for _, faces, row in cases(200):
            stamps = Stamps(faces)
            for deed in row:
                ahead = stamps.faces()
                behind = stamps.done(deed)
                self.assertEqual(list(behind.faces().items()), list(plain_row(ahead, [deed]).items()))
                self.assertEqual(stamps.faces(), ahead)
                stamps = behind

    def test_each_turn_of_each_box(self):
        chance = random.Random(21)
        for box in BOXES:
            face = some_face(chance, box)
            stamps = Stamps({"a": face, "b": face})
            for turning in ("r1", "r2", "r3"):
                if turning == "r2" or box[0] == box[1]:
                    behind = stamps.done(("turn", "b", turning))
                    self.assertEqual(behind.faces(), {"a": face, "b": turned_plain(face, turning)})
                else:
                    with self.assertRaises(Unfit):
                        stamps.done(("turn", "b", turning))


class NoStamps(unittest.TestCase):
    def wrong(self, thing):
        ahead = snapshot(thing)
        with self.assertRaises(Wrong) as held:
            Stamps(thing)
        self.assertIs(type(held.exception), Wrong)
        self.assertEqual(held.exception.at, 0)
        self.assertTrue(same(ahead, thing))

    def test_whatever_is_no_dict_of_names_with_faces(self):
        for thing in odd_things():
            if not same(thing, {"a": ("o",)}):
                self.wrong(thing)

    def test_none_or_seven(self):
        self.wrong({})
        self.wrong({name: ONE for name in "abcdefg"})
        self.wrong({f"{a}{b}{c}": ONE for a, b, c in itertools.product("abcdefghij", repeat=3)})

    def test_a_list_of_pairs(self):
        self.wrong([("a", ONE)])
        self.wrong((("a", ONE),))
        self.wrong(two().names())

    def test_stamps_themselves(self):
        with self.assertRaises(Wrong) as held:
            Stamps(two())
        self.assertEqual(held.exception.at, 0)

    def test_a_name_that_is_none(self):
        for name in ("", "A", "abcdefghi", "a1", "a\n", " ", 1, 0, True, None, ("a",), ("a", ("b",)), b"a", deep(tuple)):
            self.wrong({name: ONE})
            self.wrong({"a": ONE, name: ONE})
            self.wrong({name: ONE, "a": ONE})

    def test_a_face_that_is_none(self):
        for thing in odd_things():
            if not same(thing, ("o",)):
                self.wrong({"a": thing})
                self.wrong({"a": ("o",), "b": thing})
                self.wrong({"b": thing, "a": ("o",)})
        for thing in (list(ONE), "o", ("o", "oo"), ("x",), ("o" * 7,), ("o",) * 7, ("",), (), Plain()):
            self.wrong({"a": thing})

    def test_unlike_boxes(self):
        self.wrong({"a": ("o.",), "b": ("o", ".")})
        self.wrong({"a": ONE, "b": WIDE})
        self.wrong({"a": ONE, "b": ONE, "c": ("ooo", "ooo")})
        self.wrong({"a": WIDE, "b": ONE, "c": ONE})
        self.wrong({"a": ("oo", "oo"), "b": ("ooo", "ooo")})


class Refused(unittest.TestCase):
    def refused(self, stamps, deed, kind, **fields):
        """The deed is refused so, nothing has changed, and a good deed behind it is done."""
        ahead, faces = snapshot(deed), stamps.faces()
        with self.assertRaises(ValueError) as held:
            stamps.done(deed)
        self.assertIs(type(held.exception), kind)
        self.assertEqual(vars(held.exception), fields)
        self.assertTrue(same(ahead, deed))
        self.assertEqual(stamps.faces(), faces)
        good = ("turn", stamps.names()[0], "r2")
        self.assertEqual(stamps.done(good).faces(), plain_row(faces, [good]))

    def test_no_deed(self):
        stamps = Stamps({"a": ("o",), "b": (".",)})
        for thing in odd_things():
            if not is_deed(thing):
                self.refused(stamps, thing, Wrong, at=0)

    def test_no_deed_ahead_of_all_else(self):
        for deed in (("press", "z", "z"), ("press", "z", "Y"), ("turn", "z", "r0"), ("turn", "z", "m1"), ("cut", "z", ()),
                     ("cut", "z", ["o"]), ("print", "z", "z"), ("print", "Z"), ["print", "z"], ["print", "a"], ("turn", "a", "r4"),
                     ("stamp", "a", "b"), ("press", "a", "a"), ("cut", "a", ("o", "oo"))):
            self.refused(Stamps({"a": WIDE, "b": WIDE}), deed, Wrong, at=0)

    def test_no_name(self):
        for stamps in (two(), Stamps({"a": WIDE, "b": WIDE})):
            self.refused(stamps, ("press", "z", "b"), NoName, name="z")
            self.refused(stamps, ("press", "a", "z"), NoName, name="z")
            self.refused(stamps, ("press", "z", "y"), NoName, name="z")
            self.refused(stamps, ("press", "y", "z"), NoName, name="y")
            self.refused(stamps, ("turn", "z", "r2"), NoName, name="z")
            self.refused(stamps, ("cut", "z", stamps.face("a")), NoName, name="z")
            self.refused(stamps, ("print", "z"), NoName, name="z")
            self.refused(stamps, ("print", "aa"), NoName, name="aa")

    def test_no_name_ahead_of_unfit(self):
        self.refused(Stamps({"a": WIDE}), ("turn", "z", "r1"), NoName, name="z")
        self.refused(Stamps({"a": WIDE}), ("cut", "z", ONE), NoName, name="z")

    def test_unfit(self):
        for turning in ("r1", "r3"):
            self.refused(Stamps({"a": WIDE}), ("turn", "a", turning), Unfit)
        for face in (ONE, ("oo", "..", ".o"), ("ooo",), ("oo", "oo"), ("o",), ("oooooo",) * 6):
            self.refused(Stamps({"a": WIDE}), ("cut", "a", face), Unfit)
        for face in (WIDE, ("ooo",) * 4, ("oooo",) * 3, ("oo",) * 2):
            self.refused(two(), ("cut", "a", face), Unfit)

    def test_one_stamp_alone(self):
        self.refused(Stamps({"a": ONE}), ("press", "a", "b"), NoName, name="b")
        self.refused(Stamps({"a": ONE}), ("press", "b", "a"), NoName, name="b")
