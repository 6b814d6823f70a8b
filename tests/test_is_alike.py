"""[62], [63], [11] Whether a thing is a paper that two Stamps are alike by a web."""

import itertools
import random
import unittest

from faceonface.parted import apart, is_alike, unseen
from faceonface.stamps import Stamps
from faceonface.webs import Web
from helper import (BOXES, Units, all_standings, cells_of, deep, differing, drawn, odd_things, same, sheet_of, snapshot,
                    some_face, some_pair, spread, web_cases)

PARTS = {"presses": [("a", "b")], "turns": [("a", "r2")], "panes": {"b": ("o.",)}}
ONE = {"a": ("o.",), "b": ("..",)}
OTHER = {"a": ("o.",), "b": ("o.",)}
PAPER = [{"a": ("..",), "b": (".o",)}, {"a": ("o.",), "b": ("..",)}, {"a": (".o",), "b": ("..",)}]
MIXED = [{"b": (".o",), "a": ("oo",)}, {"a": ("o.",), "b": (".o",)}, {"a": (".o",), "b": (".o",)}]


def alike_cases(seed, many, boxes, most):
    """Tuples (box, names, parts, one, other) of two that are alike by the web, mostly unlike ones."""
    chance = random.Random(seed)
    told = []
    for box, names, parts in web_cases(seed, many, boxes, most):
        cells = spread(one := {name: some_face(chance, box) for name in names})
        for sheet in unseen(Web(box, names, **parts)):
            cells = cells ^ spread(sheet) if chance.randint(0, 1) else cells
        told.append((box, names, parts, one, sheet_of(box, names, cells)))
    return told


class Checked(unittest.TestCase):
    def tell(self, thing, box=(2, 1), names=("a", "b"), parts=PARTS, one=ONE, other=OTHER):
        """What is_alike tells; nothing that is handed in is changed."""
        web, stamps = Web(box, list(names), **parts), [Stamps(one), Stamps(other)]
        kept = snapshot(thing)
        told = is_alike(web, *stamps, thing)
        self.assertIs(type(told), bool)
        self.assertTrue(same(kept, thing))
        self.assertEqual([stamps[0].faces(), stamps[1].faces()], [one, other])
        return told

    def yes(self, *things):
        for thing in things:
            self.assertTrue(self.tell(thing), thing)

    def no(self, *things):
        for thing in things:
            self.assertFalse(self.tell(thing), thing)


class Told(Checked):
    def test_as_told(self):
        self.yes(PAPER, MIXED)
        self.assertTrue(Units((2, 1), ["a", "b"], PARTS).holds(differing(ONE, OTHER), PAPER))

    def test_what_apart_tells(self):
        for case in alike_cases(301, 60, BOXES, 40):
            box, names, parts, one, other = case
            sheets = apart(Web(box, names, **parts), Stamps(one), Stamps(other))[1]
            self.assertTrue(self.tell(sheets, *case))

    def test_in_another_order_twice_and_laid_over_one_another(self):
        chance = random.Random(302)
        for case in alike_cases(303, 60, BOXES, 30):
            box, names, parts, one, other = case
            sheets = apart(Web(box, names, **parts), Stamps(one), Stamps(other))[1]
            mixed = chance.sample(sheets, len(sheets))
            mixed = [dict(reversed(sheet.items())) for sheet in mixed]
            self.assertTrue(self.tell(mixed, *case))
            self.assertTrue(self.tell(mixed + mixed[:1], *case))
            self.assertTrue(self.tell(mixed * 2, *case))
            self.assertTrue(self.tell([sheet_of(box, names, set()), *mixed], *case))
            if mixed:
                two = [spread(chance.choice(mixed)) for _ in range(2)]
                self.assertTrue(self.tell([sheet_of(box, names, two[0] ^ two[1]), *mixed], *case))
                # One that is laid over another one and put in its place leaves all that comes of them as it was.
                changed = [sheet_of(box, names, spread(sheet) ^ spread(mixed[0])) for sheet in mixed[1:]]
                self.assertTrue(self.tell([mixed[0], *changed], *case))

    def test_no_sheets(self):
        self.assertTrue(self.tell([], parts={**PARTS, "panes": {}}))
        self.assertTrue(self.tell([], parts={**PARTS, "panes": {"b": ("..",), "a": ("..",)}}))
        self.assertTrue(self.tell([{"a": ("..",), "b": ("..",)}], parts={**PARTS, "panes": {}}))
        self.no([], [{"a": ("..",), "b": ("..",)}])

    def test_more_than_is_seen(self):
        # Nothing is printed, yet a sheet put in besides wants what stands ahead of it, and must be even on the two.
        none = {**PARTS, "panes": {}}
        self.assertTrue(self.tell(PAPER, parts=none))
        self.assertFalse(self.tell(PAPER[:1], parts=none))
        self.assertFalse(self.tell(PAPER[:2], parts=none))
        self.assertTrue(self.tell(PAPER[1:], parts=none))
        self.assertTrue(self.tell([{"a": ("oo",), "b": ("..",)}], parts=none))
        self.assertFalse(self.tell([{"a": ("oo",), "b": ("..",)}], parts=none, other={"a": ("..",), "b": ("..",)}))
        self.assertTrue(self.tell([{"a": ("oo",), "b": ("..",)}], parts=none, other={"a": (".o",), "b": ("..",)}))


class Spoilt(Checked):
    def test_a_sheet_left_out(self):
        for at in range(len(PAPER)):
            self.no(PAPER[:at] + PAPER[at + 1:], MIXED[:at] + MIXED[at + 1:])

    def test_left_out_of_what_apart_tells(self):
        for case in alike_cases(304, 40, BOXES, 24):
            box, names, parts, one, other = case
            sheets = apart(Web(box, names, **parts), Stamps(one), Stamps(other))[1]
            units = Units(box, names, parts)
            for at in range(len(sheets)):
                less = sheets[:at] + sheets[at + 1:]
                self.assertFalse(self.tell(less, *case))
                self.assertFalse(units.holds(differing(one, other), less))

    def test_one_that_is_odd_on_the_two(self):
        odd = {"a": ("..",), "b": ("o.",)}
        self.no([*PAPER, odd], [odd, *PAPER], [*PAPER, {"a": ("o.",), "b": ("o.",)}])
        every = [*PAPER, odd, {"a": ("o.",), "b": ("oo",)}]
        self.no(every)
        self.assertTrue(self.tell(every[:4], other=ONE))

    def test_two_that_are_not_alike(self):
        for other in ({"a": ("..",), "b": ("..",)}, {"a": ("o.",), "b": (".o",)}, {"a": ("oo",), "b": (".o",)}):
            self.assertFalse(self.tell(PAPER, other=other))
            self.assertFalse(self.tell([], other=other))

    def test_a_name_more_or_less(self):
        for at in range(3):
            sheet = PAPER[at]
            for bad in ({**sheet, "c": ("..",)}, {**sheet, "": ("..",)}, {"a": sheet["a"]}, {"b": sheet["b"]}, {}, {**sheet, 1: None},
                        {"a": sheet["a"], "c": sheet["b"]}, {"A": sheet["a"], "b": sheet["b"]}, {("a",): sheet["a"], "b": sheet["b"]}):
                self.no(PAPER[:at] + [bad] + PAPER[at + 1:], [*PAPER, bad], [bad, *PAPER])

    def test_a_comb_of_another_box(self):
        for bad in (("o", "."), ("o..",), ("o",), ("..", ".."), (".", "."), ("...",), ()):
            self.no([*PAPER, {"a": bad, "b": ("..",)}], [{"a": ("..",), "b": bad}, *PAPER], [{"a": bad, "b": bad}, *PAPER])

    def test_lists_and_tuples_exchanged(self):
        listed = [{name: list(face) for name, face in sheet.items()} for sheet in PAPER]
        self.no(tuple(PAPER), listed, [*PAPER[:2], listed[2]], [tuple(sheet.items()) for sheet in PAPER], dict(enumerate(PAPER)),
                [list(sheet.values()) for sheet in PAPER], [PAPER], ("alike", PAPER), [tuple(sheet.values()) for sheet in PAPER],
                [{name: "".join(face) for name, face in sheet.items()} for sheet in PAPER], [[sheet] for sheet in PAPER])

    def test_one_cell_spoilt(self):
        """Papers with one cell changed hold just where they do by the test's own reckoning."""
        chance = random.Random(305)
        found = []
        for case in alike_cases(306, 150, BOXES, 16):
            box, names, parts, one, other = case
            sheets = apart(Web(box, names, **parts), Stamps(one), Stamps(other))[1]
            units = Units(box, names, parts)
            for _ in range(3):
                if sheets:
                    at = chance.randrange(len(sheets))
                    changed = sheet_of(box, names, spread(sheets[at]) ^ {chance.choice(units.all)})
                    spoilt = sheets[:at] + [changed] + sheets[at + 1:]
                    found.append(units.holds(differing(one, other), spoilt))
                    self.assertIs(self.tell(spoilt, *case), found[-1])
        self.assertGreater(min(found.count(True), found.count(False)), 20)

    def test_lists_of_sheets_by_chance(self):
        """Lists of sheets of few cells, all sorts, hold just where they do by the test's own reckoning."""
        chance = random.Random(307)
        found = []
        for box, names, parts in web_cases(308, 150, [box for box in BOXES if box[0] * box[1] <= 3], 4):
            one, other = some_pair(chance, box, names)
            units = Units(box, names, parts)
            every = all_standings(box, sorted(names))
            for _ in range(6):
                sheets = [chance.choice(every) for _ in range(chance.randint(0, 4))]
                found.append(units.holds(differing(one, other), sheets))
                self.assertIs(self.tell(sheets, box, names, parts, one, other), found[-1])
        self.assertGreater(min(found.count(True), found.count(False)), 60)

    def test_r1_and_r3_told_apart(self):
        # What is seen goes round: three of the four corners are not enough, whichever way.
        corners = [{"a": drawn((2, 2), {cell})} for cell in cells_of((2, 2))]
        faces = {"a": ("o.", ".o")}
        for turning in ("r1", "r3"):
            parts = {"presses": [], "turns": [("a", turning)], "panes": {"a": ("o.", "..")}}
            self.assertTrue(self.tell(corners, (2, 2), ["a"], parts, faces, faces))
            for less in itertools.combinations(corners, 3):
                self.assertFalse(self.tell(list(less), (2, 2), ["a"], parts, faces, faces))
        # Two stamps, of which the one is turned ahead of a press and has two cells: one way round they are seen in turn.
        for turning, cells in (("r1", [(1, 0), (0, 0), (0, 1), (1, 1)]), ("r3", [(1, 0), (1, 1), (0, 1), (0, 0)])):
            parts = {"presses": [], "turns": [("a", turning)], "panes": {"a": ("o.", "..")}}
            told = apart(Web((2, 2), ["a"], **parts), Stamps({"a": drawn((2, 2), {cells[1]})}), Stamps({"a": drawn((2, 2), set())}))
            self.assertEqual(told, ("row", [("turn", "a", turning), ("print", "a")]))


class Things(Checked):
    def test_things_of_any_kind(self):
        for thing in odd_things():
            self.no(thing, [thing], [*PAPER, thing], [thing, *PAPER], ("alike", thing), {"a": thing, "b": thing})
            self.no([*PAPER, {"a": thing, "b": ("..",)}], [*PAPER, {"a": ("..",), "b": thing}], [{"a": thing}], (thing,))
            if thing != []:
                self.assertFalse(self.tell(thing, parts={**PARTS, "panes": {}}))

    def test_deep(self):
        for kind in (tuple, list, dict):
            for inmost in (PAPER, PAPER[0], ("o.",), "o.", (), None):
                thing = deep(kind, inmost)
                self.no(thing, [thing], [*PAPER, thing], [*PAPER, {"a": thing, "b": ("..",)}])

    def test_of_many_parts(self):
        many = 14000
        for thing in ([None] * 99000, [{}] * 99000, "o" * 99000, tuple(range(99000)), {number: number for number in range(33000)},
                      [[]] * 99000, [{"a": ("..",)}] * 24000, [{"a": ("..",), "b": None}] * 19000, tuple(PAPER * 4000)):
            self.no(thing)
        self.yes(PAPER * (many // 3), [*PAPER, *([{"a": ("..",), "b": ("..",)}] * many)])
        self.no(PAPER * (many // 3) + [{"a": ("..",), "b": ("o.",)}], PAPER[:2] * (many // 2), PAPER * (many // 3) + [None])
        self.no([{"a": ("..",), "b": ("..",)}] * many, [{name: ("..",) for name in "abcdef"}] * 5000)

    def test_many_sheets_of_many_cells(self):
        chance = random.Random(309)
        box, names = (6, 6), ["a", "b"]
        parts = {"presses": [("a", "b"), ("b", "a")], "turns": [("a", "r1"), ("b", "r3")], "panes": {"a": drawn(box, {(0, 0)})}}
        faces = {name: some_face(chance, box) for name in names}
        sheets = [{name: some_face(chance, box) for name in names} for _ in range(5800)]
        self.assertTrue(self.tell(sheets, box, names, parts, faces, faces))
        other = {**faces, "a": drawn(box, set())}
        self.assertFalse(self.tell(sheets, box, names, parts, faces, other))


class OneOrTheOther(Checked):
    """[10] There is a paper just where no row tells the two apart."""

    def test_no_paper_where_there_is_a_row(self):
        chance = random.Random(310)
        found = 0
        for box, names, parts in web_cases(311, 100, BOXES, 24):
            one, other = some_pair(chance, box, names)
            web = Web(box, names, **parts)
            told = apart(web, Stamps(one), Stamps(other))
            if told[0] == "row":
                found += 1
                whole = apart(web, Stamps(one), Stamps(one))[1]
                self.assertFalse(self.tell(whole, box, names, parts, one, other))
                self.assertFalse(self.tell([sheet_of(box, names, {cell}) for cell in Units(box, names, parts).all],
                                           box, names, parts, one, other))
        self.assertGreater(found, 20)
