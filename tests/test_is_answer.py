"""[44], [11] Whether a thing shows what it says of stamps and a wish."""

import itertools
import random
import unittest

from faceonface.stamps import Stamps
from faceonface.wishes import is_answer
from faceonface.lots import Lot
from helper import (answer_plain, box_of_faces, cells_of, comb_holds, combs_hold, deep, drawn, odd_things, over_plain,
                    plain_row, same, snapshot, some_face, some_member, some_row, wish_cases)
from test_wishes import told_of

FACES = {"a": ("o.", ".."), "b": ("..", ".."), "c": ("..", "..")}
WISH = {"b": (".o", "..")}
GOOD = ("row", [("press", "a", "b")])
PAIR = {"a": ("oo",), "b": ("..",), "c": ("..",)}
FAR = {"b": ("o.",)}
COMB = ("comb", "b", ("oo",))
THREE = {"a": ("o..",), "b": (".o.",), "c": ("...",)}
NEVER = {"a": ("...",), "b": ("...",)}
COMBS = ("combs", [("o.o",), (".o.",)])


class Checked(unittest.TestCase):
    def tell(self, faces, wish, thing):
        """What is_answer tells; nothing that is handed in is changed."""
        stamps = Stamps(faces)
        kept = snapshot((wish, thing))
        told = is_answer(stamps, wish, thing)
        self.assertIn(told, (True, False))
        self.assertIs(type(told), bool)
        self.assertTrue(same(kept, (wish, thing)))
        self.assertEqual(stamps.faces(), faces)
        return told

    def yes(self, faces, wish, thing):
        self.assertTrue(self.tell(faces, wish, thing), thing)

    def no(self, faces, wish, *things):
        for thing in things:
            self.assertFalse(self.tell(faces, wish, thing), thing)


class Told(Checked):
    def test_what_answer_tells(self):
        for faces, wish in wish_cases(131, 300):
            told = told_of(faces, wish)
            if told[0] != "few":
                self.yes(faces, wish, told)

    def test_answers_to_other_wishes(self):
        """An answer to another wish is one just where it holds, counted and done by the test."""
        found = []
        cases = wish_cases(132, 250)
        for faces, wish in cases:
            told = told_of(faces, wish)
            chance = random.Random(len(found))
            box = box_of_faces(faces)
            others = {name: some_member(chance, box, list(faces.values())) for name in faces if chance.randint(0, 1)} or wish
            if told[0] == "row":
                behind = plain_row(faces, told[1])
                due = all(behind[name] == others[name] for name in others)
            elif told[0] == "comb":
                due = told[1] in others and comb_holds(faces, others, told[1], told[2])
            elif told[0] == "combs":
                due = len(told[1]) > len(faces) - len(others) and combs_hold(faces, others, told[1])
            else:
                continue
            self.assertIs(self.tell(faces, others, told), due)
            found.append((told[0], due))
        for word in ("row", "combs"):
            self.assertGreater(found.count((word, True)), 3)
        for word in ("row", "combs", "comb"):
            self.assertGreater(found.count((word, False)), 3)


class Rows(Checked):
    def test_as_told(self):
        self.yes(FACES, WISH, GOOD)
        self.yes(FACES, WISH, ("row", [("press", "a", "b"), ("turn", "c", "r1"), ("press", "b", "c")]))
        self.yes(FACES, {"a": ("o.", "..")}, ("row", []))
        self.yes(FACES, FACES, ("row", [("press", "a", "b")] * 2))

    def test_with_fewer_stamps_than_answer_takes(self):
        self.yes({"a": ("o.",)}, {"a": (".o",)}, ("row", [("turn", "a", "r2")]))
        self.yes({"a": ("o.",)}, {"a": ("o.",)}, ("row", []))

    def test_rows_that_lead_there_or_elsewhere(self):
        chance = random.Random(133)
        for faces, wish in wish_cases(134, 120):
            box = box_of_faces(faces)
            row = some_row(chance, box, faces, chance.randint(0, 12) if len(faces) > 1 else 3, ("press", "turn"))
            behind = plain_row(faces, row)
            self.yes(faces, {name: behind[name] for name in wish}, ("row", row))
            self.assertIs(self.tell(faces, wish, ("row", row)), all(behind[name] == wish[name] for name in wish))

    def test_spoilt(self):
        row = GOOD[1]
        self.no(FACES, WISH, ("rows", row), ("Row", row), ("", row), ("comb", row), ("combs", row), ("row",), (),
                ("row", row, None), ("row", row, row), ("row", "b", row), (None, row), (row, "row"), ["row", row],
                ("row", tuple(row)), ("row", GOOD), ("row", row[0]), ("row", [["press", "a", "b"]]), {"row": row}, row)
        self.no(FACES, WISH, ("row", []), ("row", row * 2), ("row", [("press", "b", "a")]), ("row", [("press", "a", "c")]),
                ("row", row + [("turn", "b", "r1")]), ("row", [("turn", "a", "r1")] + row))

    def test_other_deeds_among_them(self):
        row = GOOD[1]
        for deed in (("cut", "c", ("..", "..")), ("cut", "b", (".o", "..")), ("print", "a"), ("print", "b"), ("press", "a", "a"),
                     ("turn", "a", "r0"), ("turn", "a", "m0"), ("turn", "c", "r4"), ("press", "a", "b", "c"), ("press", "a"),
                     ["turn", "c", "r1"], (), None, "press", ("press", "z", "b"), ("press", "c", "z"), ("turn", "z", "r1"),
                     ("stamp", "a", "b"), ("press", ["a"], "b"), ("press", "c", "B")):
            self.no(FACES, WISH, ("row", [deed] + row), ("row", row + [deed]), ("row", [deed]))

    def test_turns_that_the_box_has_not(self):
        self.yes(PAIR, PAIR, ("row", [("turn", "b", "r2")]))
        self.no(PAIR, PAIR, ("row", [("turn", "b", "r1")]), ("row", [("turn", "b", "r3")]), ("row", [("turn", "a", "r1")] * 4))

    def test_twenty_thousand_deeds(self):
        self.yes(FACES, WISH, ("row", GOOD[1] * 19999))
        self.no(FACES, WISH, ("row", GOOD[1] * 20000), ("row", GOOD[1] * 20001), ("row", GOOD[1] * 33333))
        self.yes(FACES, FACES, ("row", GOOD[1] * 20000))
        self.no(FACES, FACES, ("row", GOOD[1] * 20002), ("row", GOOD[1] * 33334))
        self.no(FACES, FACES, ("row", [("turn", "a", "r2")] * 20001 + [("turn", "a", "r2")]))


class Comb(Checked):
    def test_as_told(self):
        self.yes(PAIR, FAR, COMB)
        self.yes(PAIR, {"a": ("oo",), "b": (".o",)}, COMB)
        self.yes(PAIR, {"a": ("o.",), "b": (".o",)}, COMB)
        self.yes(PAIR, {"a": ("o.",), "b": (".o",)}, ("comb", "a", ("oo",)))

    def test_spoilt(self):
        comb = COMB[2]
        self.no(PAIR, FAR, ("comb", "a", comb), ("comb", "c", comb), ("comb", "z", comb), ("comb", "B", comb),
                ("comb", ["b"], comb), ("comb", ("b",), comb), ("comb", None, comb), ("comb", {}, comb), ("comb", comb, "b"),
                ("comb", "b"), ("comb", comb), ("comb", "b", comb, None), ("comb", "b", [comb]), ["comb", "b", comb],
                ("combs", "b", comb), ("row", "b", comb), ("Comb", "b", comb), ("comb", "b", list(comb)), ("comb",))

    def test_combs_of_another_box_and_no_combs(self):
        self.no(PAIR, FAR, ("comb", "b", ("o", "o")), ("comb", "b", ("oo", "oo")), ("comb", "b", ("oo", "..")), ("comb", "b", ("ooo",)),
                ("comb", "b", ("o",)), ("comb", "b", "oo"), ("comb", "b", ("ox",)), ("comb", "b", ()), ("comb", "b", ("oo", "o")))

    def test_combs_that_do_not_hold(self):
        self.no(PAIR, FAR, ("comb", "b", ("..",)), ("comb", "b", ("o.",)), ("comb", "b", (".o",)))
        self.no(PAIR, {"b": ("oo",)}, COMB)
        self.no({"a": ("oo",)}, {"a": ("oo",)}, ("comb", "a", ("oo",)))
        # Even on all faces as they stand, but not on all their turnings.
        self.no({"a": ("o..",), "b": ("...",)}, {"b": ("..o",)}, ("comb", "b", ("..o",)))
        self.no({"a": ("o..", "...", "..."), "b": ("...",) * 3}, {"b": (".o.", "...", "..o")}, ("comb", "b", ("...", "...", "..o")))

    def test_all_combs_of_few_cells(self):
        chance = random.Random(135)
        found = set()
        for box in ((1, 1), (2, 1), (1, 3), (2, 2), (3, 2)):
            for _ in range(12):
                base = [some_face(chance, box)]
                faces = {name: some_member(chance, box, base) for name in "ab"}
                wish = {name: some_face(chance, box) for name in chance.sample("ab", chance.randint(1, 2))}
                for number in range(2 ** len(cells_of(box))):
                    comb = drawn(box, {cell for at, cell in enumerate(cells_of(box)) if number >> at & 1})
                    for name in "ab":
                        due = name in wish and comb_holds(faces, wish, name, comb)
                        self.assertIs(self.tell(faces, wish, ("comb", name, comb)), due)
                        found.add(due)
        self.assertEqual(found, {True, False})


class Combs(Checked):
    def test_as_told(self):
        self.yes(THREE, NEVER, COMBS)
        self.yes(THREE, NEVER, ("combs", [("ooo",), (".o.",)]))
        self.yes({"a": ("o",)}, {"a": (".",)}, ("combs", [("o",)]))
        self.yes(THREE, {**NEVER, "c": ("...",)}, ("combs", [(".o.",)]))

    def test_of_any_number_more_than_there_are_free_stamps(self):
        all_blank = {name: ("...",) for name in "abc"}
        for combs in ([("o.o",)], [(".o.",)], [("ooo",)], [("o.o",), (".o.",)]):
            self.yes(THREE, all_blank, ("combs", combs))
        for combs in ([], [("o.o",)], [(".o.",)]):
            self.no(THREE, NEVER, ("combs", combs))
        self.no(THREE, all_blank, ("combs", []))
        self.no(THREE, {"a": ("...",)}, COMBS)
        self.yes(THREE, {"a": ("...",), "c": ("...",)}, COMBS)

    def test_spoilt(self):
        combs = COMBS[1]
        self.no(THREE, NEVER, ("combs", tuple(combs)), ["combs", combs], ("comb", combs), ("row", combs), ("combs", combs, combs),
                ("combs", "a", combs), ("combs",), (combs,), combs, ("combs", [list(comb) for comb in combs]),
                ("combs", {comb: True for comb in combs}), ("combs", [*combs, None]), ("combs", [combs]), ("COMBS", combs),
                ("combs", combs[0]), ("combs", ["o.o", ".o."]), (b"combs", combs))

    def test_laid_over_one_another_to_an_even_one(self):
        one, other = COMBS[1]
        both = over_plain((3, 1), [one, other])
        self.no(THREE, NEVER, ("combs", [one, one]), ("combs", [one, other, both]), ("combs", [one, other, one]),
                ("combs", [one, ("...",)]), ("combs", [("...",), ("...",)]), ("combs", [one, other, ("...",)]))
        # A comb that is even on all turnings of all faces changes nothing.
        wide = {"a": ("o...",), "b": ("....",)}
        self.yes(wide, {name: ("....",) for name in "ab"}, ("combs", [("o..o",)]))
        self.yes(wide, {name: ("....",) for name in "ab"}, ("combs", [("oo.o",)]))
        self.no(wide, {name: ("....",) for name in "ab"}, ("combs", [(".o..",)]), ("combs", [("o..o",), ("oo.o",)]))

    def test_not_one_parity_on_all_turnings(self):
        self.no(THREE, NEVER, ("combs", [("o..",), (".o.",)]), ("combs", [("o.o",), ("oo.",)]))
        self.no({"a": ("o..",)}, {"a": ("...",)}, ("combs", [("o..",)]))

    def test_not_even_on_each_wished_face(self):
        self.no(THREE, {"a": ("...",), "b": (".o.",)}, COMBS)
        self.no(THREE, {"a": ("o..",), "b": ("...",)}, COMBS)
        self.yes(THREE, {"a": ("o.o",), "b": ("...",)}, COMBS)

    def test_of_another_box(self):
        self.no(THREE, NEVER, ("combs", [("o", ".", "o"), (".", "o", ".")]), ("combs", [("o.o",), (".o",)]),
                ("combs", [("o.o.",), (".o..",)]), ("combs", [("o.o", "..."), (".o.", "...")]))

    def test_against_counting(self):
        """Lists of combs of few cells, with every number of them."""
        chance = random.Random(136)
        found = []
        for at in range(400):
            box = chance.choice([(1, 1), (2, 1), (3, 1), (1, 3), (2, 2), (3, 2)])
            faces = {name: some_face(chance, box) for name in "abc"[:chance.randint(1, 3)]}
            core = Lot(box, list(faces.values())).core()
            names = chance.sample(sorted(faces), chance.randint(1, len(faces)))
            wish = {name: core.member(0) if at % 2 else some_face(chance, box) for name in names}
            steady = core.against()
            for many in (1, 2, 3, 4):
                combs = [steady.member(chance.randrange(2 ** steady.doublings())) for _ in range(many)]
                due = many > len(faces) - len(wish) and combs_hold(faces, wish, combs)
                self.assertIs(self.tell(faces, wish, ("combs", combs)), due)
                found.append(due)
        self.assertGreater(found.count(True), 30)
        self.assertGreater(found.count(False), 30)


class Things(Checked):
    """Things of any kind."""

    def test_things_of_any_kind(self):
        for thing in odd_things():
            for faces, wish, good in ((FACES, WISH, GOOD), (PAIR, FAR, COMB), (THREE, NEVER, COMBS)):
                self.no(faces, wish, thing, (thing,), (thing, thing), (thing, thing, thing), (thing, *good[1:]), [thing])
                self.no(faces, wish, ("row", thing), ("combs", thing), ("comb", "b", thing))
                self.no(faces, wish, ("combs", [thing]), ("combs", [*COMBS[1], thing]), ("comb", thing, thing))
            if thing != "b":
                self.no(PAIR, FAR, ("comb", thing, COMB[2]))
            if thing != GOOD[1][0]:
                self.no(FACES, WISH, ("row", [thing]), ("row", [*GOOD[1], thing]), ("row", [thing, *GOOD[1]]))

    def test_deep_and_of_many_parts(self):
        for kind in (tuple, list, dict):
            for inmost in ("row", (), None, GOOD, COMB):
                thing = deep(kind, inmost)
                self.no(FACES, WISH, thing, ("row", thing), ("row", [thing]), ("combs", thing), ("combs", [thing]))
                self.no(FACES, WISH, ("comb", "b", thing), ("comb", thing, (".o", "..")), (thing, []))
        many = 33000
        for thing in ([None] * 99000, ["press"] * 99000, [("press", "a", "b", "c")] * many, [("oo", "..")] * many, "o" * 99000,
                      tuple(range(99000)), {number: number for number in range(many)}, [[]] * 99000):
            self.no(FACES, WISH, thing, ("row", thing), ("combs", thing), ("comb", "b", thing))
        self.no(THREE, NEVER, ("combs", COMBS[1] * 16000))


class EachKind(Checked):
    """[42] Never both a row and combs: what answer tells of a wish says that nothing else can hold."""

    def test_no_combs_where_there_is_a_row(self):
        chance = random.Random(137)
        for faces, wish in wish_cases(138, 200, [(2, 2), (3, 1), (2, 1), (3, 2)], 3):
            if answer_plain(faces, wish)[0] != "row":
                continue
            box = box_of_faces(faces)
            lot = Lot(box, list(faces.values()))
            for name, number in itertools.product(wish, range(2 ** lot.against().doublings())):
                self.no(faces, wish, ("comb", name, lot.against().member(number)))
            steady = lot.core().against()
            for _ in range(20):
                many = chance.randint(1, len(faces))
                combs = [steady.member(chance.randrange(2 ** steady.doublings())) for _ in range(many)]
                self.no(faces, wish, ("combs", combs))
