"""[61], [62], [64], [3], [10] Which stamps no prints tell apart, and what is never seen."""

import random
import unittest

from faceonface.parted import apart, is_alike, sheet_ahead, unseen
from faceonface.stamps import Stamps
from faceonface.webs import Web
from helper import (BOXES, Span, Units, all_standings, are_plain_rows, box_of_faces, cells_of, differing, drawn, moves_plain,
                    plain_row, prints_plain, refusal, same, sheet_of, shown_plain, snapshot, some_face, some_pair, some_row,
                    spread, turned_plain, web_cases)

FEW = [box for box in BOXES if box[0] * box[1] <= 4]
GREAT = [((5, 4), "dcba"), ((4, 5), "abcd"), ((4, 4), "edcba")]
TOO_GREAT = [((6, 5), "abc"), ((5, 3), "abcdef"), ((6, 3), "abcde"), ((4, 4), "abcdef"), ((6, 6), "abc")]


def full_web(box, names):
    """A web of all presses, of all turns by r1 or r2, with a pane of one cell on the last name."""
    turning = "r1" if box[0] == box[1] else "r2"
    return {"presses": [(one, other) for one in names for other in names if one != other],
            "turns": [(name, turning) for name in names], "panes": {names[-1]: drawn(box, {(0, 0)})}}


def turned_over(face):
    """A face with all cells changed."""
    return tuple("".join("." if sign == "o" else "o" for sign in text) for text in face)


class Standings:
    """All standings of few cells, in classes that are made finer deed by deed: those of one class are not told apart."""

    def __init__(self, box, names, web):
        self.names = sorted(names)
        all_of_them = all_standings(box, self.names)
        self.places = {tuple(faces.values()): at for at, faces in enumerate(all_of_them)}
        nexts = [[self.place(plain_row(faces, [deed])) for deed in moves_plain(web)] for faces in all_of_them]
        first = [[shown_plain(faces[name], web["panes"][name]) for name in web["panes"]] for faces in all_of_them]
        self.steps = [self.numbered(first)]
        while True:
            ahead = self.steps[-1]
            finer = self.numbered([[ahead[at], *(ahead[place] for place in nexts[at])] for at in range(len(ahead))])
            if len(set(finer)) == len(set(ahead)):
                break
            self.steps.append(finer)

    def place(self, faces):
        return self.places[tuple(faces[name] for name in self.names)]

    def numbered(self, keys):
        """A number for each key, the same for those that are the same."""
        numbers = {}
        return [numbers.setdefault(tuple(key), len(numbers)) for key in keys]

    def fewest(self, one, other):
        """Of how many deeds the shortest row is whose prints tell two standings apart; None where there is none."""
        for at, classes in enumerate(self.steps):
            if classes[self.place(one)] != classes[self.place(other)]:
                return at + 1
        return None


class Checked(unittest.TestCase):
    def look_through(self, box, names, web, one, other, fewest, units=None):
        """Ask apart, and look through what it tells; fewest is how many deeds it must be, None where they are alike."""
        told = apart(Web(box, names, **web), Stamps(one), Stamps(other))
        self.assertEqual((type(told), len(told), type(told[1])), (tuple, 2, list))
        if fewest is None:
            self.assertEqual(told[0], "alike")
            self.assertTrue(all(type(sheet) is dict and list(sheet) == sorted(names) for sheet in told[1]))
            self.assertTrue(all(box_of_faces({name: face}) == box for sheet in told[1] for name, face in sheet.items()))
            self.assertTrue((units or Units(box, names, web)).holds(differing(one, other), told[1]))
            self.assertIs(is_alike(Web(box, names, **web), Stamps(one), Stamps(other), told[1]), True)
        else:
            self.assertEqual((told[0], len(told[1])), ("row", fewest))
            allowed = moves_plain(web) + [("print", name) for name in web["panes"]]
            self.assertTrue(all(deed in allowed for deed in told[1]))
            shown = [prints_plain(faces, told[1], web["panes"]) for faces in (one, other)]
            self.assertEqual(told[1][-1][0], "print")
            self.assertNotEqual(shown[0][-1], shown[1][-1])
            self.assertEqual(shown[0][:-1], shown[1][:-1])
        return told


class Apart(Checked):
    """[61]"""

    def test_as_told(self):
        web = Web((2, 1), ["a", "b"], presses=[("a", "b")], turns=[("a", "r2")], panes={"b": ("o.",)})
        one = Stamps({"a": ("o.",), "b": ("..",)})
        self.assertEqual(apart(web, one, Stamps({"a": ("o.",), "b": (".o",)})), ("row", [("print", "b")]))
        self.assertEqual(apart(web, one, Stamps({"a": ("oo",), "b": ("..",)})),
                         ("row", [("turn", "a", "r2"), ("press", "a", "b"), ("print", "b")]))
        self.assertEqual(apart(web, one, Stamps({"a": ("..",), "b": ("..",)})), ("row", [("press", "a", "b"), ("print", "b")]))
        # The cell of b that the pane does not show is never seen.
        alike = apart(web, one, Stamps({"a": ("o.",), "b": ("o.",)}))
        self.assertEqual(alike[0], "alike")
        self.assertEqual(Span([spread(sheet) for sheet in alike[1]]).doublings(), 3)
        self.assertEqual(apart(web, one, one)[0], "alike")

    def test_all_pairs_of_few_cells(self):
        chance = random.Random(211)
        found = []
        chain = {"presses": [("a", "b"), ("b", "c"), ("c", "d"), ("d", "e"), ("e", "f")], "turns": [], "panes": {"f": ("o",)}}
        for box, names, web in web_cases(212, 150, FEW, 6) + [((1, 1), list("abcdef"), chain)]:
            reckoned, units = Standings(box, names, web), Units(box, names, web)
            pairs = [some_pair(chance, box, names) for _ in range(12)]
            # Unlike in one stamp alone, in each of them once.
            pairs += [(pairs[0][0], {**pairs[0][0], name: turned_over(pairs[0][0][name])}) for name in names]
            for one, other in pairs:
                fewest = reckoned.fewest(one, other)
                self.look_through(box, names, web, one, other, fewest, units)
                self.assertEqual(units.fewest(differing(one, other)), fewest)
                found.append(fewest)
        self.assertGreater(found.count(None), 50)
        self.assertEqual(set(found), {None, 1, 2, 3, 4, 5, 6})

    def test_eight_cells(self):
        chance = random.Random(213)
        for box, names, web in web_cases(214, 12, [(2, 2), (4, 1), (2, 1)], 8):
            reckoned = Standings(box, names, web)
            for _ in range(6):
                one, other = some_pair(chance, box, names)
                self.look_through(box, names, web, one, other, reckoned.fewest(one, other))

    def test_many_cells(self):
        chance = random.Random(215)
        found = []
        chain = {"presses": list(zip("abcde", "bcdef")), "turns": [("a", "r1")], "panes": {"f": ("o.", "..")}}
        for box, names, web in web_cases(216, 50, BOXES, 40) + [((2, 2), list("fedcba"), chain)]:
            units = Units(box, names, web)
            for at in range(4):
                one, other = some_pair(chance, box, names)
                if at == 3:
                    other = {**one, min(names): some_face(chance, box)}
                found.append(units.fewest(differing(one, other)))
                self.look_through(box, names, web, one, other, found[-1], units)
        self.assertGreater(found.count(None), 10)
        self.assertGreater(max(length for length in found if length), 5)

    def test_eighty_cells(self):
        chance = random.Random(217)
        for box, names in GREAT:
            web = full_web(box, names)
            units = Units(box, names, web)
            one, other = some_pair(chance, box, list(names))
            for faces in (one, other, {**one, names[0]: drawn(box, set())}):
                self.look_through(box, list(names), web, one, faces, units.fewest(differing(one, faces)), units)

    def test_the_same_stamps(self):
        chance = random.Random(218)
        for box, names, web in web_cases(219, 40, BOXES, 30):
            one = {name: some_face(chance, box) for name in names}
            self.look_through(box, names, web, one, dict(one), None)

    def test_a_name_that_is_never_printed(self):
        for presses, fewest in (([], None), ([("b", "a")], None), ([("a", "b")], 2), ([("a", "c"), ("c", "b")], 3)):
            web = {"presses": presses, "turns": [("b", "r2")], "panes": {"b": ("oo",)}}
            one, other = {"a": ("o.",), "b": ("..",), "c": ("..",)}, {"a": ("..",), "b": ("..",), "c": ("..",)}
            self.look_through((2, 1), ["a", "b", "c"], web, one, other, fewest)

    def test_a_cell_that_no_pane_shows(self):
        one, other = {"a": ("o..", "...", "...")}, {"a": ("...", "...", "...")}
        for turns, cell, fewest in (([], (2, 0), 1), ([], (0, 0), None), ([("a", "r2")], (0, 2), 2), ([("a", "r1")], (0, 2), 3),
                                    ([("a", "r1")], (2, 2), 4), ([("a", "r3")], (2, 2), 2), ([("a", "r1")], (0, 0), 2),
                                    ([("a", "r1"), ("a", "r2"), ("a", "r3")], (1, 0), None), ([("a", "r3"), ("a", "r1")], (0, 2), 3)):
            web = {"presses": [], "turns": turns, "panes": {"a": drawn((3, 3), {cell})}}
            self.look_through((3, 3), ["a"], web, one, other, fewest)

    def test_a_cell_that_comes_to_a_pane_by_presses_and_turns_alone(self):
        one, other = {"a": ("o..",), "b": ("...",), "c": ("...",)}, {"a": ("...",), "b": ("...",), "c": ("...",)}
        presses, turns = [("a", "b"), ("b", "c")], [("b", "r2")]
        for pane, fewest in ((("..o",), 3), (("o..",), 4), ((".o.",), None), (("ooo",), 3)):
            self.look_through((3, 1), ["c", "a", "b"], {"presses": presses, "turns": turns, "panes": {"c": pane}}, one, other, fewest)
        for pane, fewest in ((("..o",), 3), (("o..",), None)):
            self.look_through((3, 1), ["c", "a", "b"], {"presses": presses, "turns": [], "panes": {"c": pane}}, one, other, fewest)

    def test_without_panes(self):
        chance = random.Random(220)
        for box, names, web in web_cases(221, 30, BOXES, 40):
            one, other = some_pair(chance, box, names)
            for panes in ({}, {names[0]: drawn(box, set())}):
                told = self.look_through(box, names, {**web, "panes": panes}, one, other, None)
                self.assertTrue(all(not spread(sheet) for sheet in told[1]))

    def test_without_presses_and_without_turns(self):
        chance = random.Random(222)
        for box, names, web in web_cases(223, 40, FEW, 6):
            for changed in ({"presses": []}, {"turns": []}, {"presses": [], "turns": []}):
                parts = {**web, **changed}
                reckoned = Standings(box, names, parts)
                for _ in range(4):
                    one, other = some_pair(chance, box, names)
                    self.look_through(box, names, parts, one, other, reckoned.fewest(one, other))

    def test_alike_either_way_round(self):
        """[10] Two and two alike: alike are just those that differ by what is never seen, whichever comes first."""
        chance = random.Random(224)
        for box, names, web in web_cases(225, 30, BOXES, 24):
            one, other = some_pair(chance, box, names)
            made = Web(box, names, **web)
            told, back = apart(made, Stamps(one), Stamps(other)), apart(made, Stamps(other), Stamps(one))
            self.assertEqual((told[0], len(told[1])), (back[0], len(back[1])))

    def test_no_row_tells_apart_what_is_told_alike(self):
        """[10] Rows of the web's deeds by chance show the same from the two."""
        chance = random.Random(226)
        for box, names, web in web_cases(227, 60, BOXES, 40):
            never = unseen(Web(box, names, **web))
            one = {name: some_face(chance, box) for name in names}
            cells = spread(one)
            for sheet in never:
                cells = cells ^ spread(sheet) if chance.randint(0, 1) else cells
            other = sheet_of(box, names, cells)
            self.look_through(box, names, web, one, other, None)
            deeds = moves_plain(web) + [("print", name) for name in web["panes"]]
            row = [chance.choice(deeds) for _ in range(40)] if deeds else []
            self.assertEqual(prints_plain(one, row, web["panes"]), prints_plain(other, row, web["panes"]))


class Ahead(unittest.TestCase):
    """[62] sheet_ahead"""

    SHEET = {"b": ("oo.", "...", "..."), "a": ("o..", "..o", "...")}

    def test_as_told(self):
        self.assertEqual(sheet_ahead(self.SHEET, ("press", "a", "b")), {"a": ("ooo", "..o", "..."), "b": ("oo.", "...", "...")})
        self.assertEqual(sheet_ahead(self.SHEET, ("press", "b", "a")), {"a": ("o..", "..o", "..."), "b": ("ooo", "o..", "...")})
        self.assertEqual(sheet_ahead(self.SHEET, ("turn", "b", "r1")), {"a": ("o..", "..o", "..."), "b": ("...", "o..", "o..")})
        self.assertEqual(sheet_ahead(self.SHEET, ("turn", "b", "r3")), {"a": ("o..", "..o", "..."), "b": ("..o", "..o", "...")})
        self.assertEqual(sheet_ahead(self.SHEET, ("turn", "b", "r2")), {"a": ("o..", "..o", "..."), "b": ("...", "...", ".oo")})
        self.assertEqual(sheet_ahead(self.SHEET, ("print", "a")), self.SHEET)

    def test_turning_undone(self):
        chance = random.Random(231)
        for box in BOXES:
            sheet = {name: some_face(chance, box) for name in ("b", "a", "cc")}
            for turning, undone in (("r1", "r3"), ("r2", "r2"), ("r3", "r1")):
                if box[0] == box[1] or turning == "r2":
                    due = {**sheet, "b": turned_plain(sheet["b"], undone)}
                    self.assertEqual(sheet_ahead(sheet, ("turn", "b", turning)), due)

    def test_even_ahead_just_where_even_behind(self):
        chance = random.Random(232)
        found = set()
        for at in range(600):
            box = chance.choice(BOXES) if at % 2 else (at // 2 % 6 + 1,) * 2
            names = chance.sample(["a", "b", "cc", "z", "echo"], chance.randint(1, 5))
            sheet, one, other = ({name: some_face(chance, box) for name in names} for _ in range(3))
            deed = some_row(chance, box, names, 1, ("press", "turn", "turn", "print"))[0]
            ahead = sheet_ahead(sheet, deed)
            self.assertEqual(list(ahead), sorted(names))
            odd = len(spread(ahead) & differing(one, other)) % 2
            behind = differing(plain_row(one, [deed]), plain_row(other, [deed]))
            self.assertEqual(odd, len(spread(sheet) & behind) % 2)
            found.add((deed[0], odd))
        self.assertEqual(len(found), 6)

    def test_by_units(self):
        chance = random.Random(233)
        for box, names, web in web_cases(234, 30, BOXES, 40):
            units = Units(box, names, web)
            sheet = {name: some_face(chance, box) for name in names}
            for deed in moves_plain(web):
                self.assertEqual(spread(sheet_ahead(sheet, deed)), units.ahead(spread(sheet), deed))

    def test_handed_in_stays(self):
        chance = random.Random(235)
        for box in BOXES:
            sheet = {name: some_face(chance, box) for name in ("z", "b", "a")}
            for deed in (("press", "z", "a"), ("turn", "b", "r2"), ("print", "z")):
                kept = snapshot(sheet)
                told = sheet_ahead(sheet, deed)
                again = snapshot(told)
                self.assertTrue(same(sheet, kept))
                told["a"] = None
                told.pop("b")
                self.assertTrue(same(sheet, kept))
                self.assertTrue(same(sheet_ahead(sheet, deed), again))


class Unseen(unittest.TestCase):
    """[64]"""

    def test_as_told(self):
        web = Web((2, 1), ["b", "a"], presses=[], turns=[], panes={"b": ("o.",)})
        self.assertEqual(unseen(web), [{"a": ("o.",), "b": ("..",)}, {"a": (".o",), "b": ("..",)}, {"a": ("..",), "b": ("o.",)}])
        web = Web((2, 1), ["a", "b"], presses=[("a", "b")], turns=[("a", "r2")], panes={"b": ("o.",)})
        self.assertEqual(unseen(web), [{"a": ("..",), "b": ("o.",)}])
        web = Web((2, 1), ["a", "b"], presses=[("a", "b")], turns=[], panes={"b": ("o.",)})
        self.assertEqual(unseen(web), [{"a": (".o",), "b": ("..",)}, {"a": ("..",), "b": ("o.",)}])
        web = Web((2, 1), ["a"], presses=[], turns=[("a", "r2")], panes={"a": ("o.",)})
        self.assertEqual(unseen(web), [])

    def test_against_all_differences_of_few_cells(self):
        chance = random.Random(241)
        sizes = set()
        for box, names, web in web_cases(242, 50, FEW, 6):
            told = unseen(Web(box, names, **web))
            self.assertTrue(are_plain_rows(told))
            self.assertTrue(all(list(sheet) == sorted(names) for sheet in told))
            span, reckoned = Span([spread(sheet) for sheet in told]), Standings(box, names, web)
            for difference in all_standings(box, sorted(names)):
                one = {name: some_face(chance, box) for name in names}
                other = sheet_of(box, names, spread(one) ^ spread(difference))
                self.assertEqual(span.has(spread(difference)), reckoned.fewest(one, other) is None)
            sizes.add(len(told))
        self.assertGreater(len(sizes), 3)

    def test_against_apart(self):
        chance = random.Random(243)
        found = []
        for box, names, web in web_cases(244, 60, BOXES, 40):
            made = Web(box, names, **web)
            told = unseen(made)
            self.assertTrue(are_plain_rows(told))
            span = Span([spread(sheet) for sheet in told])
            for at in range(6):
                one, other = some_pair(chance, box, names)
                if at % 2 and told:
                    other = sheet_of(box, names, spread(one) ^ spread(chance.choice(told)) ^ spread(chance.choice(told)))
                alike = apart(made, Stamps(one), Stamps(other))[0] == "alike"
                self.assertEqual(span.has(differing(one, other)), alike)
                found.append(alike)
        self.assertGreater(min(found.count(True), found.count(False)), 50)

    def test_as_many_as_are_not_seen(self):
        for box, names, web in web_cases(245, 60, BOXES, 40) + [(box, list(names), full_web(box, names)) for box, names in GREAT]:
            units = Units(box, names, web)
            seen = Span([cells for step in units.seen() for cells in step])
            told = unseen(Web(box, names, **web))
            self.assertTrue(are_plain_rows(told))
            self.assertEqual(len(told), len(units.all) - seen.doublings())
            for sheet in told:
                self.assertTrue(all(len(spread(sheet) & cells) % 2 == 0 for cells in seen.by_first.values()))

    def test_no_panes_and_full_panes(self):
        for box in BOXES:
            all_cells = [(name, y, x) for name in ("a", "b") for x, y in cells_of(box)]
            web = Web(box, ["b", "a"], presses=[("a", "b")], turns=[], panes={})
            self.assertEqual(unseen(web), [sheet_of(box, ["a", "b"], {cell}) for cell in all_cells])
            full = {name: drawn(box, set(cells_of(box))) for name in ("a", "b")}
            self.assertEqual(unseen(Web(box, ["b", "a"], presses=[], turns=[], panes=full)), [])
            self.assertEqual(unseen(Web(box, ["b", "a"], presses=[("a", "b")], turns=[], panes={"b": full["b"]})), [])


class Refused(unittest.TestCase):
    def all_three(self, web, one, other):
        """How apart, is_alike and unseen are refused."""
        return [refusal(apart, web, one, other), refusal(is_alike, web, one, other, []),
                refusal(is_alike, web, one, other, None), refusal(unseen, web)]

    def test_unlike(self):
        web = Web((2, 1), ["b", "a"], presses=[("a", "b")], turns=[], panes={"a": ("o.",)})
        good = Stamps({"a": ("o.",), "b": ("..",)})
        for faces in ({"a": ("o.",)}, {"a": ("o.",), "c": ("..",)}, {"a": ("o.",), "b": ("..",), "c": ("..",)},
                      {"a": ("o", "."), "b": (".", ".")}, {"a": ("o",), "b": (".",)}, {"b": ("..",)}):
            for one, other in ((good, Stamps(faces)), (Stamps(faces), good), (Stamps(faces), Stamps(faces))):
                self.assertEqual(self.all_three(web, one, other), [("Unlike", {})] * 3 + [None])
        self.assertEqual(self.all_three(web, good, good), [None] * 4)

    def test_too_great(self):
        for box, names in TOO_GREAT:
            web = Web(box, list(names), **full_web(box, names))
            stamps = Stamps({name: drawn(box, set()) for name in names})
            self.assertEqual(self.all_three(web, stamps, stamps), [("TooGreat", {"most": 80})] * 4)
            for presses in ([], [("a", "b")]):
                web = Web(box, list(names), presses=presses, turns=[], panes={})
                self.assertEqual(self.all_three(web, stamps, stamps), [("TooGreat", {"most": 80})] * 4)

    def test_just_eighty(self):
        for box, names in GREAT:
            web = Web(box, list(names), **full_web(box, names))
            stamps = Stamps({name: drawn(box, set()) for name in names})
            self.assertEqual(len(cells_of(box)) * len(names), 80)
            self.assertEqual(self.all_three(web, stamps, stamps), [None] * 4)

    def test_unlike_ahead_of_too_great(self):
        for box, names in TOO_GREAT:
            web = Web(box, list(names), presses=[], turns=[], panes={})
            good = Stamps({name: drawn(box, set()) for name in names})
            bad = Stamps({name: drawn(box, set()) for name in names[1:]})
            for one, other in ((good, bad), (bad, good), (bad, bad)):
                self.assertEqual(self.all_three(web, one, other), [("Unlike", {})] * 3 + [("TooGreat", {"most": 80})])


class Own(unittest.TestCase):
    """[3]"""

    def test_told_is_the_askers_own(self):
        chance = random.Random(251)
        for box, names, web in web_cases(252, 30, BOXES, 24):
            made = Web(box, names, **web)
            one, other = some_pair(chance, box, names)
            stamps = [Stamps(one), Stamps(other)]
            for asked in (lambda: apart(made, *stamps)[1], lambda: apart(made, stamps[0], stamps[0])[1], lambda: unseen(made)):
                told = asked()
                kept = snapshot(told)
                for part in told:
                    if isinstance(part, dict):
                        part["a"] = None
                        part.clear()
                told.append(None)
                told.reverse()
                self.assertTrue(same(asked(), kept))
            self.assertEqual([stamps[0].faces(), stamps[1].faces()], [one, other])
            self.assertEqual((made.names(), made.presses()), (sorted(names), sorted(set(web["presses"]))))

    def test_nothing_hangs_on_the_order(self):
        chance = random.Random(253)
        for box, names, web in web_cases(254, 30, BOXES, 24):
            one, other = some_pair(chance, box, names)
            mixed = {word: chance.sample(web[word], len(web[word])) for word in ("presses", "turns")}
            mixed["panes"] = dict(reversed(web["panes"].items()))
            ways = [Web(box, names, **web), Web(box, names[::-1], **mixed)]
            turned_round = [dict(reversed(faces.items())) for faces in (one, other)]
            self.assertTrue(same(*[unseen(made) for made in ways]))
            told = [apart(made, Stamps(first), Stamps(second)) for made in ways for first, second in ((one, other), turned_round)]
            self.assertTrue(all(same(told[0], again) for again in told))
