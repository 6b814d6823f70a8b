"""[40] to [43], [4] to [6] Wishes and their answers, done deed by deed and counted by the test's own reckoning."""

import itertools
import random
import unittest

from faceonface.errors import NoName, TooFew, Unfit, Wrong
from faceonface.kinds import is_deed
from faceonface.lots import Lot
from faceonface.stamps import Stamps
from faceonface.wishes import answer, is_answer
from helper import (BOXES, answer_plain, box_of_faces, comb_holds, combs_hold, drawn, members_plain, odd_things,
                    plain_row, reached, same, snapshot, some_face, some_faces, some_member, some_row, sparse_face, turned_plain,
                    wish_cases)

PRESS_AND_TURN = ("press", "turn")
APART = {"a": ("o.....", "......"), "b": (".o....", "......"), "c": ("..o...", "......")}


def told_of(faces, wish):
    """What answer tells, or ("few", many, least) where it refuses so."""
    try:
        return answer(Stamps(faces), wish)
    except TooFew as refused:
        return ("few", refused.many, refused.least)


class Checked(unittest.TestCase):
    def check(self, faces, wish):
        """The answer is the one that is due, and holds; tell its word."""
        due = answer_plain(faces, wish)
        told = told_of(faces, wish)
        self.assertIs(type(told), tuple)
        self.assertEqual(told[0], due[0])
        if due[0] == "comb":
            self.assertEqual((len(told), told[1]), (3, due[1]))
            self.assertTrue(comb_holds(faces, wish, told[1], told[2]))
        elif due[0] == "combs":
            self.assertEqual((len(told), type(told[1]), len(told[1])), (2, list, due[1]))
            self.assertTrue(combs_hold(faces, wish, told[1]))
        elif due[0] == "few":
            self.assertEqual(told, due)
        else:
            self.check_row(faces, wish, told, due[1])
        return told[0]

    def check_row(self, faces, wish, told, most):
        self.assertEqual((len(told), type(told[1])), (2, list))
        self.assertLessEqual(len(told[1]), most)
        self.assertTrue(all(is_deed(deed) and deed[0] in PRESS_AND_TURN for deed in told[1]))
        if len(set(box_of_faces(faces))) == 2:
            self.assertTrue(all(deed[2] == "r2" for deed in told[1] if deed[0] == "turn"))
        behind = plain_row(faces, told[1])
        self.assertEqual({name: behind[name] for name in wish}, wish)


class Answers(Checked):
    """[41], [5]"""

    def test_all_sorts(self):
        words = [self.check(faces, wish) for faces, wish in wish_cases(101, 700)]
        for word in ("comb", "combs", "few", "row"):
            self.assertGreater(words.count(word), 40, word)

    def test_enough_stamps_of_great_boxes(self):
        great = [(6, 6), (6, 5), (5, 6), (5, 5), (4, 4), (6, 1)]
        words = [self.check(faces, wish) for faces, wish in wish_cases(102, 150, great, 4)]
        self.assertGreater(words.count("row"), 40)

    def test_each_box_and_number_of_stamps(self):
        chance = random.Random(103)
        for box, many in itertools.product(BOXES, range(1, 7)):
            base = [sparse_face(chance, box) for _ in range(chance.randint(1, 2))]
            faces = {name: some_member(chance, box, base) for name in "fedcba"[:many]}
            self.check(faces, {name: some_member(chance, box, list(faces.values())) for name in faces})
            self.check(faces, {"f": some_member(chance, box, list(faces.values()))})

    def test_the_longest_rows(self):
        # As many makers as six stamps allow, and all stamps wished for.
        chance = random.Random(104)
        for box in ((6, 6), (6, 5), (5, 5), (6, 2)):
            for makers in (3, 4, 5):
                base = [some_face(chance, box) for _ in range(makers)]
                faces = dict(zip("abcdef", base + [some_member(chance, box, base) for _ in range(6 - makers)]))
                wish = dict(zip("fedcba", [turned_plain(face, "m2") for face in faces.values()]))
                self.assertEqual(self.check(faces, wish), "row")

    def test_comb_of_the_first_name(self):
        faces = {"a": ("oo",), "b": ("..",), "c": ("..",)}
        for wish, name in (({"c": ("o.",), "b": (".o",), "a": ("oo",)}, "b"), ({"c": ("o.",)}, "c"),
                           ({"b": ("o.",), "a": ("o.",)}, "a"), ({"a": ("..",), "c": (".o",)}, "c")):
            self.assertEqual(answer(Stamps(faces), wish), ("comb", name, answer(Stamps(faces), wish)[2]))
            self.check(faces, wish)

    def test_combs_ahead_of_too_few(self):
        self.assertEqual(answer(Stamps({"a": ("o",)}), {"a": (".",)}), ("combs", [("o",)]))
        self.assertEqual(answer(Stamps({"a": ("o",), "b": (".",)}), {"a": (".",), "b": (".",)}), ("combs", [("o",)]))
        self.check(dict(list(APART.items())[:2]), {"a": ("......",) * 2})
        self.check(dict(list(APART.items())[:2]), {"a": ("......",) * 2, "b": ("......",) * 2})
        self.assertEqual(self.check(APART, {"a": ("......",) * 2}), "combs")

    def test_too_few_also_where_the_wish_is_met(self):
        self.assertEqual(told_of({"a": ("o",)}, {"a": ("o",)}), ("few", 1, 3))
        self.assertEqual(told_of({"a": ("o",), "b": ("o",)}, {"a": (".",)}), ("few", 2, 3))
        self.assertEqual(told_of({"a": (".",), "b": (".",)}, {"a": (".",)}), ("few", 2, 3))
        self.assertEqual(told_of({"a": (".",)}, {"a": (".",)}), ("few", 1, 3))
        self.assertEqual(told_of(APART, APART), ("few", 3, 4))

    def test_a_met_wish_needs_no_deeds(self):
        for faces, _ in wish_cases(105, 60, least=3):
            if answer_plain(faces, faces)[0] == "row":
                self.assertEqual(answer(Stamps(faces), faces), ("row", []))

    def test_no_row_of_three_apart(self):
        """[42] The wish that the document names."""
        wish = {**APART, "a": (".....o", "......")}
        self.assertEqual(told_of(APART, wish), ("few", 3, 4))
        self.assertEqual(self.check({**APART, "d": ("......",) * 2}, wish), "row")
        self.assertEqual(self.check({**APART, "d": (".....o", "...o..")}, {**wish, "d": ("oo....", "o.....")}), "row")

    def test_all_blank(self):
        for box in BOXES:
            faces = {name: drawn(box, set()) for name in "abc"}
            self.assertEqual(self.check(faces, faces), "row")
            self.assertEqual(self.check(faces, {"b": drawn(box, {(0, 0)})}), "comb")


class Never(Checked):
    """[42], [43], [6] A row is told just where one leads there, gone over in boxes of few cells."""

    def test_all_wishes_of_all_stamps(self):
        chance = random.Random(111)
        for box, many in (((1, 1), 3), ((1, 1), 4), ((2, 1), 3), ((1, 2), 3), ((3, 1), 3), ((2, 2), 3)):
            whole = members_plain(box, [drawn(box, {(x, y)}) for x in range(box[0]) for y in range(box[1])])
            for _ in range(3):
                base = [some_face(chance, box) for _ in range(chance.randint(1, 2))]
                faces = {name: some_member(chance, box, base) for name in "abcd"[:many]}
                if answer_plain(faces, faces)[0] == "few":
                    continue
                standings = reached(faces)
                wishes = list(itertools.product(whole, repeat=many))
                near = chance.sample(sorted(standings), min(len(standings), 5))
                for wished in chance.sample(wishes, min(len(wishes), 250)) + near:
                    word = self.check(faces, dict(zip(sorted(faces), wished)))
                    self.assertEqual(word == "row", wished in standings)

    def test_wishes_of_some_stamps(self):
        chance = random.Random(112)
        for faces in ({"a": ("o..",), "b": ("...",), "c": ("o.o",)}, {"a": ("oo",), "b": ("..",), "c": ("..",)},
                      {"a": ("o.", ".."), "b": ("..", ".."), "c": ("oo", "..")}, {"a": ("oo.",), "b": (".o.",), "c": ("...",)},
                      {"a": ("o", "."), "b": (".", "."), "c": ("o", "."), "d": ("o", "o")}):
            box = box_of_faces(faces)
            standings = [dict(zip(sorted(faces), standing)) for standing in reached(faces)]
            for _ in range(60):
                names = chance.sample(sorted(faces), chance.randint(1, len(faces)))
                wish = {name: some_face(chance, box) for name in names}
                there = any(all(standing[name] == wish[name] for name in wish) for standing in standings)
                self.assertEqual(self.check(faces, wish) == "row", there)

    def test_one_stamp_alone(self):
        """[43]"""
        chance = random.Random(113)
        for box in [box for box in BOXES if box[0] * box[1] <= 6] + [(3, 3)]:
            base = [some_face(chance, box)]
            faces = {name: some_member(chance, box, base) for name in "abc"}
            if answer_plain(faces, faces)[0] == "few":
                continue
            members = members_plain(box, faces.values())
            whole = members_plain(box, [drawn(box, {(x, y)}) for x in range(box[0]) for y in range(box[1])])
            for face in chance.sample(whole, min(len(whole), 64)) + members[:16]:
                word = self.check(faces, {"b": face})
                self.assertEqual(word, "row" if face in members else "comb")

    def test_rows_lead_back(self):
        """[6] What a row leads to is answered with a row, and so is the way back; the lot stays."""
        chance = random.Random(114)
        met = 0
        for faces, _ in wish_cases(115, 150, least=3):
            box = box_of_faces(faces)
            behind = plain_row(faces, some_row(chance, box, faces, chance.randint(0, 40), PRESS_AND_TURN))
            self.assertEqual(Lot(box, list(faces.values())).rows(), Lot(box, list(behind.values())).rows())
            if told_of(faces, behind)[0] != "few":
                met += 1
                self.assertEqual(self.check(faces, behind), "row")
                self.assertEqual(self.check(behind, faces), "row")
            else:
                self.assertEqual(told_of(faces, behind), told_of(behind, faces))
        self.assertGreater(met, 50)


class Refused(unittest.TestCase):
    """[4]"""

    def refused(self, stamps, wish, kind, **fields):
        kept = snapshot(wish)
        faces = stamps.faces() if isinstance(stamps, Stamps) else None
        with self.assertRaises(ValueError) as held:
            answer(stamps, wish)
        self.assertIs(type(held.exception), kind)
        self.assertEqual(vars(held.exception), fields)
        self.assertTrue(same(kept, wish))
        if faces:
            self.assertEqual(stamps.faces(), faces)

    def test_no_stamps(self):
        for thing in odd_things() + [{"a": ("o",), "b": (".",)}, Stamps]:
            self.refused(thing, {"a": ("o",)}, Wrong, at=0)
            self.refused(thing, thing, Wrong, at=0)
            self.refused(thing, {"z": ("o", "oo")}, Wrong, at=0)

    def test_no_wish(self):
        stamps = Stamps({"a": ("o",), "b": (".",), "c": (".",)})
        for thing in odd_things():
            if thing != {"a": ("o",)}:
                self.refused(stamps, thing, Wrong, at=1)
            if thing != ("o",):
                self.refused(stamps, {"a": thing}, Wrong, at=1)
                self.refused(stamps, {"z": thing, "a": ("o",)}, Wrong, at=1)
        for wish in ({}, {"A": ("o",)}, {"": ("o",)}, {"a": ("o", "oo")}, {"a": ["o"]}, {1: ("o",)}, {"z": "o"},
                     {"a": ("o",), None: ("o",)}, {"zzzzzzzzz": ("o",)}, {"z": ("o",), "y": None},
                     {name: ("o",) for name in "abcdefg"}, [("a", ("o",))], Stamps):
            self.refused(stamps, wish, Wrong, at=1)

    def test_no_name(self):
        for faces in ({"b": ("o.",)}, {"b": ("o.",), "d": ("..",), "f": ("..",), "h": ("oo",)}):
            stamps = Stamps(faces)
            for wish, name in (({"c": ("o.",)}, "c"), ({"z": ("..",), "b": ("o.",), "e": ("..",)}, "e"),
                               ({"b": ("o.", ".."), "c": ("o.",)}, "c"), ({"z": ("o",), "a": ("o",)}, "a"),
                               ({name: ("o",) for name in "zyxwvu"}, "u"), ({"bb": ("..",)}, "bb")):
                self.refused(stamps, wish, NoName, name=name)

    def test_unfit(self):
        for stamps in (Stamps({"a": ("o.",), "b": ("..",)}), Stamps({"a": ("o.",), "b": ("..",), "c": ("..",)})):
            for face in (("o",), ("o", "."), ("o..",), ("oo", "oo"), ("oooooo",) * 6):
                self.refused(stamps, {"a": face}, Unfit)
                self.refused(stamps, {"b": face, "a": ("o.",)}, Unfit)
                self.refused(stamps, {"b": ("..",), "a": face}, Unfit)
        self.refused(Stamps({"a": ("oo",), "b": ("..",)}), {"a": ("o.",), "b": ("o",)}, Unfit)

    def test_too_few(self):
        self.refused(Stamps({"a": ("o",)}), {"a": ("o",)}, TooFew, many=1, least=3)
        self.refused(Stamps(APART), {"a": ("......", "o.....")}, TooFew, many=3, least=4)


class Own(unittest.TestCase):
    """[3]"""

    def test_handed_in_stays_and_told_is_the_askers_own(self):
        words = set()
        for faces, wish in wish_cases(121, 120):
            stamps = Stamps(faces)
            kept = list(wish.items())
            told = told_of(faces, wish)
            words.add(told[0])
            self.assertEqual(list(wish.items()), kept)
            self.assertEqual(stamps.faces(), faces)
            ahead = snapshot(told)
            if told[0] in ("row", "combs"):
                told[1].append(None)
                told[1].reverse()
            self.assertEqual(told_of(faces, wish), ahead)
        self.assertEqual(words, {"row", "combs", "comb", "few"})

    def test_changed_behind_the_call(self):
        faces = {"a": ("o.", ".."), "b": ("..", ".."), "c": ("..", "..")}
        wish = {"b": ("o.", ".."), "c": ("oo", "oo")}
        stamps = Stamps(faces)
        told = answer(stamps, wish)
        kept = snapshot(told)
        wish["b"] = ("oo", "oo")
        faces["a"] = ("oo", "oo")
        self.assertEqual(told, kept)
        self.assertIs(is_answer(stamps, {"b": ("o.", ".."), "c": ("oo", "oo")}, told), True)

    def test_whatever_the_order_of_names(self):
        for faces, wish in wish_cases(122, 60):
            backward = {name: wish[name] for name in reversed(list(wish))}
            others = {name: faces[name] for name in reversed(list(faces))}
            self.assertEqual(told_of(faces, wish), told_of(others, backward))
