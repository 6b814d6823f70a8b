"""[70] to [74], [3], [10], [11] What prints tell of beginnings that nobody saw."""

import itertools
import random
import unittest

from faceonface.stories import agree, agree_many, agreeing, is_clash, sure
from helper import (BOXES, Span, all_standings, are_plain_rows, cells_of, deep, drawn, odd_things, over_plain, plain_row,
                    prints_plain, refusal, same, sheet_of, snapshot, some_face, some_row, some_size, sparse_face, spread,
                    story_of, up_cells)

FEW = [box for box in BOXES if box[0] * box[1] <= 4]
WORDS = ("press", "press", "turn", "print", "print", "print", "cut")
GREAT = [((5, 4), "dcba"), ((4, 5), "abcd"), ((4, 4), "edcba"), ((1, 1), "abcdef")]
TOO_GREAT = [((6, 5), "abc"), ((5, 3), "abcdef"), ((6, 3), "abcde"), ((4, 4), "abcdef"), ((6, 6), "abc"), ((4, 3), "abcdefg")]

# One stamp, of which the left cell is printed, turned, and printed again.
PANES = {"a": (".o",)}
STORY = [(("print", "a"), (".o",)), (("turn", "a", "r2"), None), (("print", "a"), ("..",))]
CLASH = STORY + [(("print", "a"), (".o",))]


def row_of(story):
    return [deed for deed, _ in story]


def shown_in(story):
    return [shown for deed, shown in story if deed[0] == "print"]


def spoilt(chance, story, panes):
    """A story in which some cell of a pane is shown otherwise, where there is one."""
    cells = [(at, cell) for at, (deed, _) in enumerate(story) if deed[0] == "print"
             for cell in sorted(up_cells(panes.get(deed[1], ())))]
    if not cells:
        return story
    at, cell = chance.choice(cells)
    deed, shown = story[at]
    box = (len(shown[0]), len(shown))
    return story[:at] + [(deed, drawn(box, up_cells(shown) ^ {cell}))] + story[at + 1:]


def story_cases(seed, many, boxes, most, length=20, words=WORDS):
    """Tuples (box, names, panes, story): each other one told from a beginning, the others spoilt."""
    chance = random.Random(seed)
    told = []
    for at in range(many):
        box, names = some_size(chance, boxes, most)
        make = chance.choice([some_face, some_face, sparse_face])
        panes = {name: make(chance, box) for name in [*names, "other"] if chance.randint(0, 4)}
        row = some_row(chance, box, names, chance.randint(0, length), words)
        beginning = {name: some_face(chance, box) for name in names}
        story = story_of(row, prints_plain(beginning, row, panes))
        told.append((box, names, panes, spoilt(chance, story, panes) if at % 2 else story))
    return told


def agrees(beginning, panes, story):
    """Whether a beginning agrees with a story, as [70] says."""
    return prints_plain(beginning, row_of(story), panes) == shown_in(story)


def all_agreeing(box, names, panes, story):
    """All beginnings that agree with a story of few cells, gone through one by one."""
    return [faces for faces in all_standings(box, sorted(names)) if agrees(faces, panes, story)]


def shown_cells(beginning, panes, story):
    """The set of (place, cell) that the deeds of a story show up from a beginning."""
    places = [at for at, (deed, _) in enumerate(story) if deed[0] == "print"]
    return {(at, cell) for at, face in zip(places, prints_plain(beginning, row_of(story), panes)) for cell in up_cells(face)}


def units_and_blank(box, names):
    """The blank beginning, and those that have one up cell in all."""
    return [sheet_of(box, names, set())] + [sheet_of(box, names, {(name, y, x)}) for name in names for x, y in cells_of(box)]


def is_clash_plain(box, names, panes, story, cells, beginnings):
    """Whether cells are those of a clash, as [71] says, of some beginnings that tell it for all."""
    for place, cell in cells:
        if story[place][0][0] != "print" or cell not in up_cells(panes.get(story[place][0][1], ())):
            return False
    if len(set(cells)) != len(cells):
        return False
    parities = {len(shown_cells(beginning, panes, story) & set(cells)) % 2 for beginning in beginnings}
    in_story = {(at, cell) for at, (_, shown) in enumerate(story) if shown for cell in up_cells(shown)}
    return len(parities) == 1 and len(in_story & set(cells)) % 2 not in parities


class Checked(unittest.TestCase):
    def look_through_some(self, box, names, panes, story, told):
        _, beginning, sheets = told
        self.assertEqual((len(told), type(beginning), type(sheets)), (3, dict, list))
        self.assertTrue(all(list(sheet) == sorted(names) and type(sheet) is dict for sheet in [beginning, *sheets]))
        self.assertTrue(are_plain_rows(sheets))
        self.assertFalse({min(spread(sheet)) for sheet in sheets} & spread(beginning))
        self.assertTrue(agrees(beginning, panes, story))

    def look_through(self, box, names, panes, story, beginnings):
        """Ask agree, and look through what it tells; of a clash on some beginnings that tell it for all."""
        told = agree(box, names, panes, story)
        self.assertIs(type(told), tuple)
        if told[0] == "some":
            self.look_through_some(box, names, panes, story, told)
        else:
            self.assertEqual((told[0], len(told), type(told[1])), ("clash", 2, list))
            self.assertTrue(all(type(pair) is tuple and type(pair[1]) is tuple for pair in told[1]))
            self.assertTrue(is_clash_plain(box, names, panes, story, told[1], beginnings))
            self.assertIs(is_clash(box, names, panes, story, told[1]), True)
        return told


class Agree(Checked):
    """[70], [71]"""

    def test_as_told(self):
        self.assertEqual(agree((2, 1), ["a"], PANES, STORY), ("some", {"a": ("o.",)}, []))
        self.assertEqual(agree((2, 1), ["a"], PANES, STORY[:1]), ("some", {"a": ("o.",)}, [{"a": (".o",)}]))
        self.assertEqual(agree((2, 1), ["a"], PANES, []), ("some", {"a": ("..",)}, [{"a": ("o.",)}, {"a": (".o",)}]))
        told = agree((2, 1), ["a"], PANES, CLASH)
        self.assertEqual((told[0], sorted(told[1])), ("clash", [(2, (1, 0)), (3, (1, 0))]))

    def test_a_cut_tells_nothing_of_the_beginning(self):
        cut = (("cut", "a", ("o.",)), None)
        whole = [{"a": ("o.",)}, {"a": (".o",)}]
        self.assertEqual(agree((2, 1), ["a"], PANES, [cut, (("print", "a"), (".o",))]), ("some", {"a": ("..",)}, whole))
        self.assertEqual(agree((2, 1), ["a"], PANES, [cut, (("print", "a"), ("..",))]), ("clash", [(1, (1, 0))]))
        self.assertEqual(agree((2, 1), ["a"], PANES, STORY[:1] + [cut]), ("some", {"a": ("o.",)}, [{"a": (".o",)}]))

    def test_presses(self):
        panes = {"b": ("oo",)}
        story = [(("press", "a", "b"), None), (("print", "b"), ("o.",))]
        told = agree((2, 1), ["b", "a"], panes, story)
        self.assertEqual(told, ("some", {"a": ("..",), "b": (".o",)}, [{"a": ("o.",), "b": (".o",)}, {"a": (".o",), "b": ("o.",)}]))
        told = agree((2, 1), ["b", "a"], panes, [(("print", "b"), ("..",)), *story])
        self.assertEqual(told, ("some", {"a": ("o.",), "b": ("..",)}, []))

    def test_names_without_panes_tell_nothing(self):
        for panes in ({}, {"z": ("oo",)}, {"a": ("..",)}):
            story = [(("print", "a"), ("..",)), (("press", "b", "a"), None), (("print", "b"), ("..",))] * 3
            told = agree((2, 1), ["a", "b"], panes, story)
            self.assertEqual((told[0], told[1], len(told[2])), ("some", {"a": ("..",), "b": ("..",)}, 4))

    def test_all_beginnings_of_few_cells(self):
        found = []
        for box, names, panes, story in story_cases(401, 240, FEW, 6):
            beginnings = all_standings(box, sorted(names))
            told = self.look_through(box, names, panes, story, beginnings)
            due = [spread(faces) for faces in beginnings if agrees(faces, panes, story)]
            found.append((told[0], len(due)))
            if told[0] == "clash":
                self.assertEqual(due, [])
            else:
                sheets = [spread(sheet) for sheet in told[2]]
                come = {frozenset()}
                for sheet in sheets:
                    come |= {cells ^ sheet for cells in come}
                come = {cells ^ frozenset(spread(told[1])) for cells in come}
                self.assertEqual(come, {frozenset(cells) for cells in due})
        self.assertGreater(len([one for one in found if one[0] == "clash"]), 30)
        self.assertGreater(len(set(found)), 5)

    def test_eight_cells(self):
        for box, names, panes, story in story_cases(402, 20, [(2, 2), (4, 1), (4, 2), (2, 1)], 8):
            told = self.look_through(box, names, panes, story, all_standings(box, sorted(names)))
            many = len(all_agreeing(box, names, panes, story))
            self.assertEqual(many, 0 if told[0] == "clash" else 2 ** len(told[2]))

    def check_many_cells(self, box, names, panes, story):
        """A story of many cells, by what its deeds show of the blank beginning and of single cells."""
        chance = random.Random(403)
        beginnings = units_and_blank(box, names)
        told = self.look_through(box, names, panes, story, beginnings)
        shown = [shown_cells(faces, panes, story) for faces in beginnings]
        seen = Span([cells ^ shown[0] for cells in shown[1:]])
        wanted = {(at, cell) for at, (_, face) in enumerate(story) if face for cell in up_cells(face)}
        self.assertEqual(told[0], "some" if seen.has(wanted ^ shown[0]) else "clash")
        if told[0] == "some":
            self.assertEqual(len(told[2]), len(beginnings) - 1 - seen.doublings())
            for _ in range(3):
                some = [sheet for sheet in told[2] if chance.randint(0, 1)]
                laid = {name: over_plain(box, [told[1][name], *(sheet[name] for sheet in some)]) for name in names}
                self.assertTrue(agrees(laid, panes, story))
            self.assertTrue(all(agrees({name: over_plain(box, [told[1][name], sheet[name]]) for name in names}, panes, story)
                                for sheet in told[2][:5]))
        else:
            for _ in range(3):
                faces = {name: some_face(chance, box) for name in names}
                self.assertFalse(agrees(faces, panes, story))
        return told

    def test_many_cells(self):
        found = [self.check_many_cells(*case)[0] for case in story_cases(404, 60, BOXES, 36)]
        self.assertGreater(min(found.count("some"), found.count("clash")), 8)

    def test_sixty_deeds_and_eighty_cells(self):
        chance = random.Random(405)
        found = []
        for box, names in GREAT:
            for at in range(4):
                row = some_row(chance, box, names, 60, WORDS if at % 2 else ("press", "turn", "print", "print"))
                panes = {name: some_face(chance, box) for name in names[at % 2:]}
                beginning = {name: some_face(chance, box) for name in names}
                story = story_of(row, prints_plain(beginning, row, panes))
                story = spoilt(chance, story, panes) if at > 1 else story
                found.append(self.check_many_cells(box, list(names), panes, story)[0])
        self.assertEqual(set(found), {"some", "clash"})

    def test_no_deeds(self):
        for box in BOXES:
            names = ["b", "a"]
            told = agree(box, names, {"a": drawn(box, set(cells_of(box)))}, [])
            every = [sheet_of(box, names, {(name, y, x)}) for name in "ab" for x, y in cells_of(box)]
            self.assertEqual(told, ("some", sheet_of(box, names, set()), every))


class Numbered(Checked):
    """[72]"""

    def test_as_told(self):
        story = STORY[:1]
        self.assertEqual(agree_many((2, 1), ["a"], PANES, story), 2)
        self.assertEqual(agreeing((2, 1), ["a"], PANES, story, 0), {"a": ("o.",)})
        self.assertEqual(agreeing((2, 1), ["a"], PANES, story, 1), {"a": ("oo",)})
        self.assertEqual([agreeing((2, 1), ["a"], PANES, [], number) for number in range(4)],
                         [{"a": ("..",)}, {"a": ("o.",)}, {"a": (".o",)}, {"a": ("oo",)}])
        self.assertEqual((agree_many((2, 1), ["a"], PANES, STORY), agree_many((2, 1), ["a"], PANES, CLASH)), (1, 0))

    def test_by_the_bits(self):
        for case in story_cases(411, 120, FEW, 6):
            box, names, panes, story = case
            told, many = agree(*case), agree_many(*case)
            self.assertIs(type(many), int)
            due = all_agreeing(*case)
            self.assertEqual(many, len(due))
            listed = []
            for number in range(many):
                parts = [told[1], *(sheet for at, sheet in enumerate(told[2]) if number >> at & 1)]
                listed.append(agreeing(*case, number))
                self.assertEqual(listed[-1], {name: over_plain(box, [part[name] for part in parts]) for name in names})
                self.assertEqual(list(listed[-1]), sorted(names))
            self.assertEqual(sorted(map(sorted, map(spread, listed))), sorted(map(sorted, map(spread, due))))
            for number in (many, many + 1, 2 * many, 10 ** 18, 10 ** 5000):
                self.assertEqual(refusal(agreeing, *case, number), ("NoNumber", {"number": number}) if number >= many else None)

    def test_great_numbers(self):
        chance = random.Random(412)
        for box, names in GREAT[:3]:
            panes = {names[0]: some_face(chance, box)}
            row = some_row(chance, box, names, 20, ("press", "turn", "print"))
            beginning = {name: some_face(chance, box) for name in names}
            case = (box, list(names), panes, story_of(row, prints_plain(beginning, row, panes)))
            told, many = agree(*case), agree_many(*case)
            self.assertEqual(many, 2 ** len(told[2]))
            self.assertGreater(many, 2 ** 40)
            for number in (many - 1, many // 2, chance.randrange(many)):
                parts = [told[1], *(sheet for at, sheet in enumerate(told[2]) if number >> at & 1)]
                one = agreeing(*case, number)
                self.assertEqual(one, {name: over_plain(box, [part[name] for part in parts]) for name in names})
                self.assertTrue(agrees(one, panes, case[3]))
            for number in (many, many + 7, 10 ** 30, 2 ** 100000):
                self.assertEqual(refusal(agreeing, *case, number), ("NoNumber", {"number": number}))

    def test_below_nothing(self):
        for number in (-1, -2, -(10 ** 30)):
            self.assertEqual(refusal(agreeing, (2, 1), ["a"], PANES, [], number), ("NoNumber", {"number": number}))

    def test_of_a_clash_every_number(self):
        for number in (0, 1, 2, 10 ** 18, 10 ** 5000):
            self.assertEqual(refusal(agreeing, (2, 1), ["a"], PANES, CLASH, number), ("NoNumber", {"number": number}))


class Sure(Checked):
    """[73]"""

    def test_as_told(self):
        self.assertEqual(sure((2, 1), ["a"], PANES, STORY), [("a", (0, 0), True), ("a", (1, 0), False)])
        self.assertEqual(sure((2, 1), ["a"], PANES, STORY[:1]), [("a", (0, 0), True)])
        self.assertEqual((sure((2, 1), ["a"], PANES, []), sure((2, 1), ["a"], PANES, CLASH)), ([], []))

    def test_against_all_beginnings(self):
        sizes = set()
        for case in story_cases(421, 200, FEW, 6):
            box, names, panes, story = case
            due = all_agreeing(*case)
            cells = [(name, (x, y)) for name in names for x, y in cells_of(box)]
            ways = {(name, cell): {cell in up_cells(faces[name]) for faces in due} for name, cell in cells}
            told = sure(*case)
            self.assertEqual(told, sorted((name, cell, min(way)) for (name, cell), way in ways.items() if len(way) == 1))
            self.assertTrue(all(type(one) is tuple and type(one[1]) is tuple and type(one[2]) is bool for one in told))
            sizes.add(len(told))
        self.assertGreater(len(sizes), 4)

    def test_sorted(self):
        # Cells stand as Python sorts them here: by x first.
        box, names = (3, 2), ["b", "a"]
        beginning = {"a": ("o.o", ".o."), "b": ("...", "ooo")}
        panes = {name: ("ooo", "ooo") for name in names}
        row = [("print", "b"), ("print", "a")]
        told = sure(box, names, panes, story_of(row, prints_plain(beginning, row, panes)))
        self.assertEqual(told, [(name, (x, y), (x, y) in up_cells(beginning[name])) for name in "ab" for x in range(3) for y in range(2)])

    def test_many_cells(self):
        for case in story_cases(422, 30, BOXES, 36):
            box, names, panes, story = case
            told = agree(*case)
            if told[0] == "some":
                loose = set().union(*map(spread, told[2])) if told[2] else set()
                due = [(name, (x, y), (name, y, x) in spread(told[1])) for name in names for x, y in cells_of(box)
                       if (name, y, x) not in loose]
                self.assertEqual(sure(*case), sorted(due))
            else:
                self.assertEqual(sure(*case), [])


class Clash(Checked):
    """[74]"""

    CASE = ((2, 1), ["a"], PANES, CLASH)
    GOOD = [(2, (1, 0)), (3, (1, 0))]

    def tell(self, thing, case=CASE):
        kept = snapshot((case, thing))
        told = is_clash(*case, thing)
        self.assertIs(type(told), bool)
        self.assertTrue(same(kept, (case, thing)))
        return told

    def no(self, *things):
        for thing in things:
            self.assertFalse(self.tell(thing), thing)

    def test_as_told(self):
        self.assertTrue(self.tell(self.GOOD))
        self.assertTrue(self.tell(self.GOOD[::-1]))
        self.assertFalse(self.tell(self.GOOD, ((2, 1), ["a"], PANES, [*CLASH[:3], (("print", "a"), ("..",))])))

    def test_an_odd_number_of_all(self):
        # Behind a cut of an up cell an odd number is shown up of all beginnings.
        story = [(("cut", "a", ("oo",)), None), (("print", "a"), ("..",)), (("print", "a"), (".o",))]
        case = ((2, 1), ["a"], PANES, story)
        self.assertTrue(self.tell([(1, (1, 0))], case))
        self.assertFalse(self.tell([(2, (1, 0))], case))
        self.assertTrue(self.tell([(1, (1, 0)), (2, (1, 0))], case))

    def test_what_agree_tells_in_another_order(self):
        chance = random.Random(431)
        found = 0
        for case in story_cases(432, 150, BOXES, 24):
            told = agree(*case)
            if told[0] == "clash":
                found += 1
                self.assertTrue(self.tell(told[1], case))
                self.assertTrue(self.tell(chance.sample(told[1], len(told[1])), case))
        self.assertGreater(found, 25)

    def test_a_cell_left_out_put_in_or_twice(self):
        """Spoilt by a cell, a list is one of a clash just where it is by the test's own reckoning."""
        found = []
        for case in story_cases(433, 60, FEW, 5):
            box, names, panes, story = case
            told = agree(*case)
            if told[0] != "clash":
                continue
            beginnings = all_standings(box, sorted(names))
            all_cells = [(at, cell) for at, (deed, _) in enumerate(story) if deed[0] == "print" for cell in cells_of(box)]
            for pair in all_cells + told[1]:
                less = [other for other in told[1] if other != pair]
                for cells in (less, [*told[1], pair], [pair, *told[1]], [pair]):
                    found.append(is_clash_plain(*case, cells, beginnings))
                    self.assertIs(self.tell(cells, case), found[-1])
        self.assertGreater(min(found.count(True), found.count(False)), 50)

    def test_lists_by_chance(self):
        chance = random.Random(434)
        found = []
        for case in story_cases(435, 300, [(1, 1), (2, 1), (1, 2), (2, 2)], 4, 8, ("press", "print", "print", "print")):
            box, names, panes, story = case
            beginnings = all_standings(box, sorted(names))
            all_cells = [(at, cell) for at, (deed, _) in enumerate(story) for cell in sorted(up_cells(panes.get(deed[1], ())))]
            for _ in range(4):
                cells = chance.sample(all_cells, chance.randint(0, min(4, len(all_cells))))
                found.append(is_clash_plain(*case, cells, beginnings))
                self.assertIs(self.tell(cells, case), found[-1])
        self.assertGreater(min(found.count(True), found.count(False)), 15)

    def test_spoilt(self):
        good = self.GOOD
        self.no([], good[:1], good[1:], good + good, good + good[:1], tuple(good), [list(pair) for pair in good],
                [(place, list(cell)) for place, cell in good], dict(good), good + [(0, (1, 0))], good + [(0, (0, 0))], [(1, (1, 0))],
                good + [(1, (1, 0))], good + [(2, (0, 0))], good + [(4, (1, 0))], good + [(-1, (1, 0))], good + [(2, (2, 0))],
                good + [(2, (1, 1))], good + [(2, (-1, 0))], good + [(2, (1, 0, 0))], good + [(2,)], good + [(2, (1, 0), 0)],
                [(-2, (1, 0)), (-1, (1, 0))], [(2, (True, 0)), (3, (1, 0))], [(2, (1, False)), (3, (1, 0))],
                [("2", (1, 0)), (3, (1, 0))], [(2, (1, 0)), (3, "10")], [((1, 0), 2), ((1, 0), 3)], ("clash", good), [good],
                [(2, 1, 0), (3, 1, 0)], good + [None], {*good}, [(10 ** 30, (1, 0))], [(2, (10 ** 30, 0)), (3, (1, 0))])
        story = [(("turn", "a", "r2"), None), (("print", "a"), (".o",)), (("print", "a"), ("..",))]
        case = ((2, 1), ["a"], PANES, story)
        self.assertTrue(self.tell([(1, (1, 0)), (2, (1, 0))], case))
        # Truths are no numbers.
        self.assertFalse(self.tell([(True, (1, 0)), (2, (1, 0))], case))
        self.assertFalse(self.tell([(1, (True, 0)), (2, (1, 0))], case))

    def test_names_without_panes(self):
        story = [(("print", "b"), ("..",)), (("print", "b"), ("..",))]
        for panes in ({}, {"b": ("..",)}, {"a": ("oo",)}):
            for cells in ([(0, (0, 0))], [(0, (0, 0)), (1, (0, 0))], []):
                self.assertFalse(self.tell(cells, ((2, 1), ["a", "b"], panes, story)))

    def test_things_of_any_kind(self):
        for thing in odd_things():
            self.no(thing, [thing], (thing,), [*self.GOOD, thing], [thing, *self.GOOD], [(2, thing)], [(thing, (1, 0))],
                    [*self.GOOD, (0, thing)], [*self.GOOD, (thing, (1, 0))], [*self.GOOD, (0, (thing, 0))], [(2, (1, thing))],
                    [(thing, thing)], {"cells": thing}, [[thing]])

    def test_deep_and_of_many_parts(self):
        for kind in (tuple, list, dict):
            for inmost in (self.GOOD, self.GOOD[0], (1, 0), 2, ()):
                thing = deep(kind, inmost)
                self.no(thing, [thing], [*self.GOOD, thing], [(2, thing)], [(2, (thing, 0))])
        self.no(self.GOOD * 150, [None] * 900, self.GOOD * 10000, [(2, (1, 0))] * 20000, [(0, (1, 0))] * 20001, [()] * 99000,
                [(place, (1, 0)) for place in range(20000)], "o" * 99000, tuple(range(99000)), {n: n for n in range(33000)})


class Refused(unittest.TestCase):
    """[71] TooGreat of all five, whatever else is handed in."""

    def all_five(self, box, names, panes, story):
        case = (box, list(names), panes, story)
        told = [refusal(asked, *case) for asked in (agree, agree_many, sure)]
        for number in (0, 1, 10 ** 5000):
            told.append(refusal(agreeing, *case, number))
        for thing in (None, [], [(0, (0, 0))], {}, deep(list)):
            told.append(refusal(is_clash, *case, thing))
        return told

    def test_too_great(self):
        for box, names in TOO_GREAT:
            blank, full = drawn(box, set()), drawn(box, set(cells_of(box)))
            stories = [[], [(("print", "a"), blank)], [(("print", "a"), full)], [(("cut", "a", blank), None), (("print", "a"), full)],
                       [(("print", "a"), blank), (("print", "a"), full)]]
            for panes, story in itertools.product(({}, {"a": full}), stories):
                self.assertEqual(self.all_five(box, names, panes, story), [("TooGreat", {"most": 80})] * 11)

    def test_just_eighty(self):
        for box, names in GREAT[:3]:
            self.assertEqual(len(cells_of(box)) * len(names), 80)
            told = self.all_five(box, names, {"a": drawn(box, {(0, 0)})}, [(("print", "a"), drawn(box, {(0, 0)}))])
            self.assertEqual(told[:5] + told[6:], [None] * 10)
            self.assertEqual(told[5], ("NoNumber", {"number": 10 ** 5000}))


class Own(unittest.TestCase):
    """[3]"""

    def asked(self, case):
        told = [agree(*case), agree_many(*case), sure(*case), is_clash(*case, [(0, (0, 0))])]
        return told + [agreeing(*case, 0)] if agree_many(*case) else told

    def change(self, thing):
        """Change all lists and dicts within a thing."""
        for part in thing.values() if isinstance(thing, dict) else thing:
            if isinstance(part, (list, dict, tuple)):
                self.change(part)
        if isinstance(thing, dict):
            thing["a"] = None
            thing["zz"] = None
        if isinstance(thing, list):
            thing.append(None)
            thing.reverse()

    def test_handed_in_stays_and_told_is_the_askers_own(self):
        for case in story_cases(441, 60, BOXES, 24):
            kept = snapshot(case)
            told = self.asked(case)
            due = snapshot(told)
            self.assertTrue(same(case, kept))
            self.change(told)
            self.assertTrue(same(self.asked(case), due))
            self.assertTrue(same(case, kept))

    def test_nothing_hangs_on_the_order_of_names(self):
        for box, names, panes, story in story_cases(442, 60, BOXES, 24):
            other = (box, names[::-1], dict(reversed(panes.items())), story)
            self.assertTrue(same(self.asked((box, names, panes, story)), self.asked(other)))
            self.assertTrue(same(self.asked((box, sorted(names), panes, story)), self.asked(other)))


class Whole(Checked):
    """[10] What prints tell of the beginnings is all that they tell."""

    def test_the_true_beginning_is_among_those_told(self):
        chance = random.Random(451)
        for box, names, panes, story in story_cases(452, 60, BOXES, 36):
            beginning = {name: some_face(chance, box) for name in names}
            case = (box, names, panes, story_of(row_of(story), prints_plain(beginning, row_of(story), panes)))
            told = agree(*case)
            self.assertEqual(told[0], "some")
            self.assertTrue(Span(map(spread, told[2])).has(spread(beginning) ^ spread(told[1])))
            for name, (x, y), truth in sure(*case):
                self.assertIs((x, y) in up_cells(beginning[name]), truth)

    def test_more_prints_leave_no_more(self):
        for box, names, panes, story in story_cases(453, 40, FEW, 6):
            ahead = None
            for length in range(len(story) + 1):
                many = agree_many(box, names, panes, story[:length])
                self.assertTrue(ahead is None or many <= ahead)
                ahead = many

    def test_of_cells_that_are_never_cut(self):
        # The faces behind the deeds come as they are told, deed by deed.
        box, names = (2, 2), ["a", "b"]
        panes = {"a": ("oo", "oo"), "b": ("oo", "oo")}
        beginning = {"a": ("o.", ".o"), "b": ("oo", "o.")}
        row = [("press", "a", "b"), ("turn", "a", "r1"), ("press", "b", "a"), ("print", "a"), ("print", "b")]
        told = agree(box, names, panes, story_of(row, prints_plain(beginning, row, panes)))
        self.assertEqual(told, ("some", beginning, []))
        self.assertEqual(plain_row(told[1], row), plain_row(beginning, row))
