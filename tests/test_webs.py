"""[60], [3], [4] Webs."""

import itertools
import random
import unittest

from faceonface.kinds import is_box
from faceonface.webs import Web
from helper import BOXES, Plain, deep, drawn, odd_things, refusal, same, snapshot, some_face, some_web

NAMES = ["b", "a", "cc"]
GOOD = {"presses": [("b", "a"), ("a", "cc"), ("b", "a")], "turns": [("b", "r3"), ("a", "r1"), ("b", "r3")],
        "panes": {"cc": ("o.", ".."), "a": ("oo", "..")}}
# Of the odd things these are lists of names.
NAMED = (["o"], ["press", "a", "b"])


class Told(unittest.TestCase):
    def test_as_told(self):
        web = Web((2, 2), NAMES, **GOOD)
        self.assertEqual(web.box(), (2, 2))
        self.assertEqual(web.names(), ["a", "b", "cc"])
        self.assertEqual(web.presses(), [("a", "cc"), ("b", "a")])
        self.assertEqual(web.turns(), [("a", "r1"), ("b", "r3")])
        self.assertEqual(list(web.panes().items()), [("a", ("oo", "..")), ("cc", ("o.", ".."))])

    def test_none_of_all(self):
        web = Web((3, 2), ["a"], presses=[], turns=[], panes={})
        self.assertEqual((web.box(), web.names(), web.presses(), web.turns(), web.panes()), ((3, 2), ["a"], [], [], {}))

    def test_each_box(self):
        chance = random.Random(201)
        for box in BOXES:
            for many in range(1, 7):
                names = chance.sample(["a", "b", "cc", "deed", "echo", "longname"], many)
                parts = some_web(chance, box, names)
                web = Web(box, names, **parts)
                self.assertEqual((web.box(), web.names()), (box, sorted(names)))
                self.assertEqual(web.presses(), sorted(set(parts["presses"])))
                self.assertEqual(web.turns(), sorted(set(parts["turns"])))
                self.assertEqual(list(web.panes().items()), sorted(parts["panes"].items()))
                kinds = [type(told) for told in (web.names(), web.presses(), web.turns(), web.panes())]
                self.assertEqual(kinds, [list, list, list, dict])

    def test_all_that_may_be(self):
        names = list("fbadce")
        presses = list(itertools.permutations(names, 2))
        turns = list(itertools.product(names, ["r2", "r1", "r3"]))
        panes = {name: ("oooooo",) * 6 for name in names}
        web = Web((6, 6), names, presses=presses * 2, turns=turns * 3, panes=panes)
        self.assertEqual((web.presses(), web.turns(), web.panes()), (sorted(presses), sorted(turns), panes))
        self.assertEqual(Web((1, 1), ["a", "b"], presses=[("a", "b")] * 60, turns=[("b", "r1")] * 60, panes={}).presses(),
                         [("a", "b")])

    def test_by_name_in_any_order(self):
        due = Web((2, 2), NAMES, **GOOD)
        for words in itertools.permutations(GOOD):
            web = Web((2, 2), NAMES, **{word: GOOD[word] for word in words})
            self.assertEqual((web.presses(), web.turns(), web.panes()), (due.presses(), due.turns(), due.panes()))
        with self.assertRaises(TypeError):
            Web((2, 2), NAMES, GOOD["presses"], GOOD["turns"], GOOD["panes"])

    def test_any_order_within(self):
        due = Web((2, 2), NAMES, **GOOD)
        for names in itertools.permutations(NAMES):
            web = Web((2, 2), list(names), presses=GOOD["presses"][::-1], turns=GOOD["turns"][::-1],
                      panes=dict(reversed(GOOD["panes"].items())))
            self.assertEqual((web.names(), web.presses(), web.turns()), (due.names(), due.presses(), due.turns()))
            self.assertEqual(list(web.panes().items()), list(due.panes().items()))


class Refused(unittest.TestCase):
    def wrong(self, at, box=(2, 2), names=NAMES, **parts):
        handed = (box, names, {**GOOD, **parts})
        kept = snapshot(handed)
        self.assertEqual(refusal(Web, box, names, **handed[2]), ("Wrong", {"at": at}))
        self.assertTrue(same(kept, handed))

    def test_no_box(self):
        for thing in [*odd_things(), (0, 1), (1, 7), (True, True), [2, 2], (2, 2, 2), ("2", "2"), (2, None)]:
            if not is_box(thing):
                self.wrong(0, box=thing)

    def test_no_names(self):
        for thing in [*odd_things(), ("b", "a", "cc"), {"b": 1}, ["a", "a"], ["a", "b", "a"], ["A"], ["a", ""], ["abcdefghi"],
                      ["a", 1], [["a"]], [("a",)], list("abcdefg"), [True], ["a", None], "abc", [deep(tuple)]]:
            if thing not in NAMED:
                self.wrong(1, names=thing)

    def test_no_presses(self):
        for thing in odd_things():
            if thing != []:
                self.wrong(2, presses=thing)
            if thing != ():
                self.wrong(2, presses=[thing])
            self.wrong(2, presses=[("a", "b"), thing])
            self.wrong(2, presses=[("a", thing)] if thing != "b" else [("a", "a")])
            self.wrong(2, presses=[(thing, "a")] if thing != "b" else [("b", "b")])
        for pair in (("a", "a"), ("a", "z"), ("z", "a"), ["a", "b"], ("a",), ("a", "b", "cc"), ("press", "a", "b"), ("a", "B"), {"a", "b"},
                     ("a", ["b"]), "ab", (("a", "b"),), ("cc", "r1"), ("a", True)):
            self.wrong(2, presses=[pair])
            self.wrong(2, presses=[("a", "b"), pair, ("b", "a")])
        for thing in ((("a", "b"),), {("a", "b"): 1}, {("a", "b")}, ("a", "b"), [("a", "b")] * 61, [[("a", "b")]], [("a", "b")] * 300):
            self.wrong(2, presses=thing)

    def test_no_turns(self):
        for thing in odd_things():
            if thing != []:
                self.wrong(3, turns=thing)
            if thing != ():
                self.wrong(3, turns=[thing])
            self.wrong(3, turns=[("a", "r1"), thing])
            self.wrong(3, turns=[("a", thing)])
            if thing != "a":
                self.wrong(3, turns=[(thing, "r1")])
        for pair in (("a", "r0"), ("a", "m0"), ("a", "m1"), ("a", "m2"), ("a", "m3"), ("a", "r4"), ("z", "r1"), ["a", "r1"], ("a",),
                     ("turn", "a", "r1"), ("r1", "a"), ("a", "b"), ("a", 1), ("a", ["r1"]), ("a", "R1"), "ar1", ("a", "")):
            self.wrong(3, turns=[pair])
            self.wrong(3, turns=[("a", "r1"), pair, ("b", "r2")])
        for thing in ((("a", "r1"),), {"a": "r1"}, {("a", "r1")}, ("a", "r1"), [("a", "r1")] * 61, [[("a", "r1")]]):
            self.wrong(3, turns=thing)

    def test_turns_that_the_box_has_not(self):
        for box in BOXES:
            for turning in ("r1", "r2", "r3"):
                told = refusal(Web, box, ["a"], presses=[], turns=[("a", turning)], panes={})
                due = None if box[0] == box[1] or turning == "r2" else ("Wrong", {"at": 3})
                self.assertEqual(told, due)

    def test_no_panes(self):
        for thing in odd_things():
            if thing != {}:
                self.wrong(4, panes=thing)
            self.wrong(4, panes={"a": thing})
            self.wrong(4, panes={"b": ("oo", "oo"), "a": thing})
        face = ("o.", "..")
        for thing in ({"z": face}, {"a": face, "z": face}, {1: face}, {("a",): face}, {"A": face}, {None: face}, {True: face},
                      [("a", face)], ("a", face), {"a": list(face)}, {"a": ("o.",)}, {"a": ("o..", "...")}, {"a": "o./.."},
                      {"a": ("o.", ".x")}, {"a": {"a": face}}, {"a": None}, Plain(), {"r1": face}, {"a": (face,)}):
            self.wrong(4, panes=thing)
        for one, other in itertools.permutations([(1, 1), (2, 3), (3, 2), (1, 6), (6, 6)], 2):
            told = refusal(Web, one, ["a", "b"], presses=[], turns=[], panes={"a": drawn(one, set()), "b": drawn(other, set())})
            self.assertEqual(told, ("Wrong", {"at": 4}))

    def test_the_first_of_several(self):
        for thing in odd_things():
            if not is_box(thing) and thing not in ([], {}, *NAMED):
                parts = {"presses": thing, "turns": thing, "panes": thing}
                self.wrong(0, thing, thing, **parts)
                self.wrong(1, names=thing, **parts)
                self.wrong(2, **parts)
                self.wrong(3, turns=thing, panes=thing)
        # What pairs and panes may be hangs on the box and the names that are handed in.
        self.wrong(2, names=["z"])
        self.wrong(3, names=["a", "b", "cc"], box=(3, 2))
        self.wrong(4, box=(3, 3))
        self.wrong(3, box=(3, 2), panes={"a": ("...", "...")})

    def test_deep_and_of_many_parts(self):
        for kind in (tuple, list, dict):
            for inmost in (("a", "b"), "a", (), ("a", "r1"), ("o.", "..")):
                thing = deep(kind, inmost)
                self.wrong(0, box=thing)
                self.wrong(1, names=thing)
                self.wrong(1, names=["a", thing])
                self.wrong(2, presses=thing)
                self.wrong(2, presses=[thing])
                self.wrong(3, turns=[("a", thing)])
                self.wrong(4, panes=thing)
                self.wrong(4, panes={"a": thing})
        self.wrong(1, names=[f"a{number}" for number in range(900)])
        self.wrong(1, names=["a"] * 900)
        self.wrong(2, presses=[("a", "b")] * 299)
        self.wrong(3, turns=[("a", "r2")] * 299)
        self.wrong(4, panes={number: ("o.", "..") for number in range(250)})


class Own(unittest.TestCase):
    """[3]"""

    def told(self, web):
        return [web.box(), web.names(), web.presses(), web.turns(), web.panes()]

    def test_handed_in_is_not_held(self):
        chance = random.Random(202)
        for box in BOXES:
            names = ["b", "a", "cc"]
            parts = some_web(chance, box, names)
            parts["panes"]["b"] = some_face(chance, box)
            kept = snapshot((names, parts))
            web = Web(box, names, **parts)
            due = snapshot(self.told(web))
            self.assertTrue(same(kept, (names, parts)))
            names.append("z")
            names[0] = None
            parts["presses"].clear()
            parts["turns"].append(("a", "m0"))
            parts["panes"]["b"] = None
            parts["panes"]["zz"] = ("o",)
            self.assertTrue(same(self.told(web), due))

    def test_told_is_the_askers_own(self):
        web = Web((2, 2), NAMES, **GOOD)
        due = snapshot(self.told(web))
        for _ in range(2):
            _, names, presses, turns, panes = self.told(web)
            for told in (names, presses, turns):
                told.append(None)
                told.reverse()
            panes["a"] = None
            panes["zz"] = ("o",)
            self.assertTrue(same(self.told(web), due))
            for told in self.told(web)[1:]:
                told.clear()
            self.assertTrue(same(self.told(web), due))
