"""[50], [51], [8] Tables, held against a reckoning turning by turning and cell by cell."""

import itertools
import random
import unittest

from faceonface.errors import HasCut, NoWay, Unlike
from faceonface.rows import done_row
from faceonface.stamps import Stamps
from faceonface.tables import behind, is_table, made, many_times, table_of, undone_table
from helper import (BOTH, BOXES, Plain, behind_plain, box_turnings, deep, is_led_back, made_plain, odd_things, over_plain,
                    plain_row, same, snapshot, some_face, some_faces, some_row, some_table, table_plain, turned_plain)

DEEDS = ("press", "turn", "print")
SQUARE, WIDE = (3, 3), (3, 2)
NAMES = ["a", "b", "c"]
GOOD = {"a": {"a": ("r0",), "c": ("m0", "r2")}, "b": {}, "c": {"a": ("m2",), "b": ("r0", "r2"), "c": ("m0",)}}


def row_cases(seed, many, length=40):
    """Tuples (box, names, row) of rows without cuts, the names in any order."""
    chance = random.Random(seed)
    told = []
    for at in range(many):
        box = chance.choice(BOXES) if at % 2 else (at // 2 % 6 + 1,) * 2
        names = list(some_faces(chance, box, at % 6 + 1))
        told.append((box, names, some_row(chance, box, names, chance.randint(0, length), DEEDS)))
    return told


def table_cases(seed, many):
    """Tuples (box, names, table) of tables of rows and of any others."""
    chance = random.Random(seed)
    told = [(box, names, table_plain(names, row)) for box, names, row in row_cases(seed, many // 2)]
    for at in range(many // 2):
        box = chance.choice(BOXES)
        names = list(some_faces(chance, box, at % 6 + 1))
        told.append((box, names, some_table(chance, box, names)))
    return told


def faces_for(chance, box, names):
    return {name: some_face(chance, box) for name in names}


class Checked(unittest.TestCase):
    def check(self, told, due):
        """Two tables are the same, their names in the same order, and all dicts and tuples are plain ones."""
        self.assertEqual(told, due)
        self.assertEqual(list(told), sorted(due))
        self.assertIs(type(told), dict)
        for name in told:
            self.assertEqual(list(told[name]), sorted(due[name]))
            self.assertIs(type(told[name]), dict)
            self.assertTrue(all(type(turnings) is tuple for turnings in told[name].values()))


class OfRows(Checked):
    """[50] table_of."""

    def test_as_told(self):
        self.check(table_of(SQUARE, ["b", "a"], []), {"a": {"a": ("r0",)}, "b": {"b": ("r0",)}})
        self.check(table_of(SQUARE, ["a"], [("turn", "a", "r1")] * 3), {"a": {"a": ("r3",)}})
        self.check(table_of(SQUARE, ["a", "b"], [("press", "a", "b")]), {"a": {"a": ("r0",)}, "b": {"a": ("m0",), "b": ("r0",)}})
        self.check(table_of(SQUARE, ["a", "b"], [("turn", "a", "r1"), ("press", "a", "b"), ("print", "b")]),
                   {"a": {"a": ("r1",)}, "b": {"a": ("m3",), "b": ("r0",)}})
        self.check(table_of(SQUARE, ["a", "b"], [("press", "a", "b"), ("turn", "b", "r1")]),
                   {"a": {"a": ("r0",)}, "b": {"a": ("m1",), "b": ("r1",)}})

    def test_two_alike_come_to_nothing(self):
        twice = [("press", "a", "b")] * 2
        self.check(table_of(SQUARE, ["a", "b"], twice), {"a": {"a": ("r0",)}, "b": {"b": ("r0",)}})
        self.check(table_of(SQUARE, ["a", "b"], [("press", "a", "b"), ("press", "b", "a")]),
                   {"a": {"b": ("m0",)}, "b": {"a": ("m0",), "b": ("r0",)}})
        self.check(table_of(WIDE, ["a", "b"], [("press", "a", "b"), ("press", "b", "a"), ("press", "a", "b")]),
                   {"a": {"b": ("m0",)}, "b": {"a": ("m0",)}})

    def test_turnings_are_told_apart_where_they_do_the_same(self):
        row = [("press", "a", "b"), ("turn", "a", "r2"), ("press", "a", "b")]
        self.check(table_of((1, 1), ["a", "b"], row), {"a": {"a": ("r2",)}, "b": {"a": ("m0", "m2"), "b": ("r0",)}})
        self.check(table_of((1, 4), ["a", "b"], row), {"a": {"a": ("r2",)}, "b": {"a": ("m0", "m2"), "b": ("r0",)}})

    def test_turning_by_turning(self):
        for box, names, row in row_cases(181, 200):
            kept = (list(names), list(row))
            self.check(table_of(box, names, row), table_plain(names, row))
            self.assertEqual((names, row), kept)

    def test_four_hundred_deeds(self):
        chance = random.Random(182)
        for box in ((6, 6), (6, 5), (1, 1), (1, 2)):
            for many in range(1, 7):
                names = list("fedcba"[:many])
                row = some_row(chance, box, names, 400, DEEDS)
                self.check(table_of(box, names, row), table_plain(names, row))

    def test_has_cut(self):
        cut = ("cut", "a", ("o..",) * 3)
        good = [("press", "a", "b"), ("turn", "b", "r1"), ("print", "a")]
        for at in range(4):
            for more in ([], [cut], [("cut", "b", ("...",) * 3)], good + [cut]):
                row = good[:at] + [cut] + good[at:] + more
                kept = list(row)
                with self.assertRaises(ValueError) as held:
                    table_of(SQUARE, ["a", "b"], row)
                self.assertIs(type(held.exception), HasCut)
                self.assertEqual(vars(held.exception), {"at": at})
                self.assertEqual(row, kept)
        with self.assertRaises(HasCut) as held:
            table_of(SQUARE, ["a", "b"], good * 133 + [cut])
        self.assertEqual(held.exception.at, 399)


class IsTable(unittest.TestCase):
    """[50] is_table."""

    def tell(self, thing, box=WIDE, names=tuple(NAMES)):
        kept = snapshot(thing)
        names = list(names)
        told = is_table(box, names, thing)
        self.assertIs(type(told), bool)
        self.assertTrue(same(kept, thing))
        return told

    def no(self, *things, box=WIDE):
        for thing in things:
            self.assertIs(self.tell(thing, box), False, thing)

    def test_what_is_told(self):
        self.assertIs(self.tell(GOOD), True)
        for box, names, table in table_cases(183, 120):
            self.assertIs(self.tell(table, box, names), True)
            self.assertIs(self.tell(table, box, names[::-1]), True)
            self.assertIs(self.tell(behind(box, table, table), box, names), True)
            self.assertIs(self.tell(table_of(box, names, []), box, names), True)

    def test_of_few_and_all_turnings(self):
        self.assertIs(self.tell({name: {} for name in NAMES}), True)
        self.assertIs(self.tell({name: {other: ("m0", "m2", "r0", "r2") for other in NAMES} for name in NAMES}), True)
        every = {name: {other: tuple(sorted(box_turnings(SQUARE))) for other in NAMES} for name in NAMES}
        self.assertIs(self.tell(every, SQUARE), True)
        self.assertIs(self.tell(every, WIDE), False)

    def test_whatever_the_order_of_names(self):
        for order in itertools.permutations(NAMES):
            self.assertIs(self.tell({name: {other: GOOD[name][other] for other in order if other in GOOD[name]} for name in order}), True)

    def spoilt(self, name, entry):
        return {**GOOD, name: entry}

    def test_names(self):
        self.no({"a": GOOD["a"], "b": GOOD["b"]}, {}, self.spoilt("d", {}), {"a": {}, "b": {}, "d": {}}, self.spoilt("A", {}))
        self.no({1: {}, 2: {}, 3: {}}, {"a": {}, "b": {}, None: {}}, {"a": {}, "b": {}, ("c",): {}})
        self.no(self.spoilt("a", {"d": ("r0",)}), self.spoilt("a", {"a": ("r0",), "d": ("r0",)}), self.spoilt("a", {None: ("r0",)}),
                self.spoilt("a", {0: ("r0",)}), self.spoilt("a", {"": ("r0",)}), self.spoilt("a", {("a",): ("r0",)}))
        self.assertIs(self.tell({"a": {}}, names=["a"]), True)
        self.assertIs(self.tell({"a": {}}, names=["a", "b"]), False)
        self.assertIs(self.tell({"a": {}, "b": {}}, names=["a"]), False)
        self.assertIs(self.tell({"a": {"b": ("r0",)}}, names=["a"]), False)

    def test_turnings(self):
        for turnings in ((), ("r2", "m0"), ("r0", "m0"), ("m2", "m0", "r0"), ("r0", "r0"), ("m0", "m0", "r2"), ("r1",), ("m1",),
                         ("m0", "r3"), ("r0", "r1"), ("r4",), ("r",), ("",), ("R0",), ("r0",) * 9, ["r0"], ["m0", "r2"], "r0",
                         ("r0", None), (None,), (0,), (("r0",),), (["r0"],), {"r0": True}, {"r0"}, b"r0", (b"r0",), None, 1, Plain()):
            for name in NAMES:
                self.no(self.spoilt(name, {"a": turnings}), self.spoilt(name, {"b": ("r0",), "a": turnings}))
        for turnings in (("r1", "r0"), ("r3", "r2"), ("m0", "m1", "m1"), ("m3", "m1"), ("m0", "m1", "m2", "m3", "r0", "r1", "r2", "r3", "r3")):
            self.no(self.spoilt("a", {"a": turnings}), box=SQUARE)

    def test_things_of_any_kind(self):
        for thing in odd_things():
            self.no(thing, [thing], {"a": thing}, self.spoilt("a", {"b": thing}))
            if thing != {}:
                self.no({name: thing for name in NAMES}, *[self.spoilt(name, thing) for name in NAMES])
            if thing != "r0":
                self.no(self.spoilt("b", {"a": (thing,)}), self.spoilt("c", {"a": ("m0", thing)}))
        self.no([GOOD], (GOOD,), list(GOOD.items()), tuple(GOOD), {name: list(GOOD[name].items()) for name in NAMES})

    def test_deep_and_of_many_parts(self):
        for kind in (tuple, list, dict):
            for inmost in ({}, ("r0",), GOOD):
                thing = deep(kind, inmost)
                self.no(thing, self.spoilt("a", thing), self.spoilt("a", {"a": thing}), self.spoilt("a", {"a": (thing,)}))
        for thing in ({number: {} for number in range(49000)}, {"a": {}, **{number: {"a": ("r0",)} for number in range(19000)}},
                      tuple(["r0"] * 99000), ["r0"] * 99000, {str(number): ("r0",) for number in range(33000)}, "r0" * 49000):
            self.no(thing, self.spoilt("a", thing), self.spoilt("c", {"a": thing}), self.spoilt("c", {"a": (thing,)}))


class Behind(Checked):
    """[51] behind."""

    def pairs(self, seed, many):
        chance = random.Random(seed)
        for box, names, one in table_cases(seed, many):
            yield box, names, one, some_table(chance, box, names)
            yield box, names, some_table(chance, box, names), one

    def test_as_told(self):
        one, other = {"a": {"a": ("r1",)}}, {"a": {"a": ("m0",)}}
        self.check(behind(SQUARE, one, other), {"a": {"a": ("m3",)}})
        self.check(behind(SQUARE, other, one), {"a": {"a": ("m1",)}})
        self.check(behind(SQUARE, {"a": {"a": ("m0", "r0")}}, {"a": {"a": ("m0", "r0")}}), {"a": {}})

    def test_turning_by_turning(self):
        for box, _, one, other in self.pairs(184, 120):
            self.check(behind(box, one, other), behind_plain(one, other))

    def test_does_what_the_two_do_one_after_another(self):
        chance = random.Random(185)
        for box, names, one, other in self.pairs(186, 60):
            stamps = Stamps(faces_for(chance, box, names))
            self.assertEqual(made(behind(box, one, other), stamps).faces(), made(other, made(one, stamps)).faces())

    def test_rows_one_behind_another(self):
        chance = random.Random(187)
        for box, names, row in row_cases(188, 80):
            other = some_row(chance, box, names, 20, DEEDS)
            self.check(behind(box, table_of(box, names, row), table_of(box, names, other)), table_of(box, names, row + other))

    def test_both_of_all_turnings(self):
        for one, other in BOTH:
            self.check(behind(SQUARE, {"a": {"a": (one,)}}, {"a": {"a": (other,)}}), {"a": {"a": (BOTH[one, other],)}})


class Undone(Checked):
    """[51] undone_table."""

    def lead_back(self, box, names, table):
        """The table that leads back, from either side, or NoWay where none does; tell which."""
        kept = snapshot(table)
        nothing = table_plain(names, [])
        if is_led_back(table):
            back = undone_table(box, table)
            self.check(back, back)
            self.assertTrue(is_table(box, names, back))
            self.check(behind_plain(table, back), nothing)
            self.check(behind_plain(back, table), nothing)
        else:
            with self.assertRaises(ValueError) as held:
                undone_table(box, table)
            self.assertIs(type(held.exception), NoWay)
            self.assertEqual(vars(held.exception), {})
        self.assertTrue(same(kept, table))
        return is_led_back(table)

    def test_all_sorts(self):
        told = [self.lead_back(box, names, table) for box, names, table in table_cases(191, 300)]
        self.assertGreater(told[150:].count(True), 20)
        self.assertGreater(told[150:].count(False), 40)

    def test_of_rows_there_always_is_one(self):
        chance = random.Random(192)
        for box, names, row in row_cases(193, 100):
            table = table_of(box, names, row)
            self.assertTrue(self.lead_back(box, names, table))
            stamps = Stamps(faces_for(chance, box, names))
            self.assertEqual(made(undone_table(box, table), done_row(stamps, row)).faces(), stamps.faces())

    def test_all_tables_of_one_name(self):
        for box in (WIDE, (1, 2)):
            turnings = sorted(box_turnings(box))
            some = [part for size in range(5) for part in itertools.combinations(turnings, size)]
            tables = [{"a": {"a": part} if part else {}} for part in some]
            for table in tables:
                backs = [other for other in tables if behind_plain(table, other) == {"a": {"a": ("r0",)}}]
                if self.lead_back(box, ["a"], table):
                    self.assertEqual(backs, [undone_table(box, table)])
                else:
                    self.assertEqual(backs, [])

    def test_no_way(self):
        self.assertFalse(self.lead_back(SQUARE, NAMES, {name: {} for name in NAMES}))
        self.assertFalse(self.lead_back(SQUARE, ["a"], {"a": {"a": ("r0", "r1")}}))
        self.assertTrue(self.lead_back(SQUARE, ["a"], {"a": {"a": ("m1", "r0", "r1")}}))
        self.assertFalse(self.lead_back(WIDE, NAMES, GOOD))
        self.assertFalse(self.lead_back(WIDE, ["a", "b"], {"a": {"a": ("r0",), "b": ("m0",)}, "b": {"a": ("m2",), "b": ("r2",)}}))
        # In a box of one cell all turnings do the same, but a table is one of turnings.
        self.assertFalse(self.lead_back((1, 1), ["a"], {"a": {"a": ("m0", "r0")}}))

    def test_led_back_by_being_done_so_often(self):
        for box, names, table in table_cases(194, 60):
            if is_led_back(table):
                nothing, now, times = table_plain(names, []), table, 1
                while now != nothing:
                    now, times = behind(box, now, table), times + 1
                self.assertEqual(many_times(box, table, times - 1), undone_table(box, table))


class ManyTimes(Checked):
    """[51] many_times."""

    def test_small_numbers_one_behind_another(self):
        for box, names, table in table_cases(195, 80):
            kept = snapshot(table)
            now = table_plain(names, [])
            for number in range(9):
                self.check(many_times(box, table, number), now)
                now = behind_plain(now, table)
            self.assertTrue(same(kept, table))

    def test_great_numbers_by_parts(self):
        chance = random.Random(196)
        for box, _, table in table_cases(197, 40):
            one, other = chance.randint(0, 10 ** 18), chance.randint(0, 10 ** 6)
            whole = many_times(box, table, one + other)
            self.check(whole, behind_plain(many_times(box, table, one), many_times(box, table, other)))
            self.check(whole, behind_plain(many_times(box, table, other), many_times(box, table, one)))
            self.check(many_times(box, table, one * 3), many_times(box, many_times(box, table, 3), one))

    def test_great_numbers_by_their_round(self):
        for box, names, table in table_cases(198, 60):
            found = [table_plain(names, [])]
            while True:
                now = behind(box, found[-1], table)
                if now in found:
                    break
                found.append(now)
            lead = found.index(now)
            for number in (10 ** 18, 10 ** 18 - 1, 10 ** 18 - 7, 10 ** 9 + 3):
                at = number if number < len(found) else lead + (number - lead) % (len(found) - lead)
                self.check(many_times(box, table, number), found[at])

    def test_of_no_times(self):
        for box, names, table in table_cases(199, 30):
            self.check(many_times(box, table, 0), {name: {name: ("r0",)} for name in sorted(names)})


class Made(unittest.TestCase):
    """[51] made."""

    def test_cell_by_cell(self):
        chance = random.Random(201)
        for box, names, table in table_cases(202, 200):
            faces = faces_for(chance, box, names)
            stamps = Stamps(faces)
            kept = snapshot(table)
            told = made(table, stamps)
            self.assertIsInstance(told, Stamps)
            self.assertEqual(list(told.faces().items()), list(made_plain(table, faces).items()))
            self.assertTrue(same(kept, table))
            self.assertEqual(stamps.faces(), faces)

    def test_blank_where_nothing_stands(self):
        told = made({"a": {}, "b": {"a": ("r0",)}}, Stamps({"a": ("o.",), "b": ("oo",)}))
        self.assertEqual(told.faces(), {"a": ("..",), "b": ("o.",)})

    def test_unlike_names(self):
        table = table_of(WIDE, NAMES, [])
        for names in (["a", "b"], ["a", "b", "d"], ["a", "b", "c", "d"], ["a"], ["x", "y", "z"], ["a", "b", "cc"]):
            stamps = Stamps({name: ("o..", "...") for name in names})
            with self.assertRaises(ValueError) as held:
                made(table, stamps)
            self.assertIs(type(held.exception), Unlike)
            self.assertEqual(stamps.names(), sorted(names))


class Whole(unittest.TestCase):
    """[8], [50] The table of a row makes what the row makes, and does as rows do."""

    def test_what_the_row_makes(self):
        chance = random.Random(203)
        for box, names, row in row_cases(204, 150):
            for _ in range(2):
                faces = faces_for(chance, box, names)
                self.assertEqual(made(table_of(box, names, row), Stamps(faces)).faces(), plain_row(faces, row))

    def test_laid_over_one_another(self):
        chance = random.Random(205)
        for box, names, table in table_cases(206, 100):
            ones, others = faces_for(chance, box, names), faces_for(chance, box, names)
            over = {name: over_plain(box, [ones[name], others[name]]) for name in names}
            one, other = made(table, Stamps(ones)).faces(), made(table, Stamps(others)).faces()
            self.assertEqual(made(table, Stamps(over)).faces(), {name: over_plain(box, [one[name], other[name]]) for name in one})

    def test_turned_by_two_quarters(self):
        chance = random.Random(207)
        for box, names, table in table_cases(208, 100):
            faces = faces_for(chance, box, names)
            half = {name: turned_plain(faces[name], "r2") for name in names}
            due = {name: turned_plain(face, "r2") for name, face in made(table, Stamps(faces)).faces().items()}
            self.assertEqual(made(table, Stamps(half)).faces(), due)

    def test_names_exchanged(self):
        chance = random.Random(209)
        for box, names, row in row_cases(210, 100):
            others = dict(zip(sorted(names), chance.sample(names, len(names))))
            renamed = [tuple(others[part] if at and part in others else part for at, part in enumerate(deed)) for deed in row]
            table = table_of(box, names, row)
            due = {others[name]: {others[source]: table[name][source] for source in table[name]} for name in table}
            self.assertEqual(table_of(box, names, renamed), due)


class Own(unittest.TestCase):
    """[3] Every dict that is told is a new one, those within it too."""

    def spoil(self, table):
        for name in table:
            table[name]["spoilt"] = None
            table[name].pop(name, None)
        table.clear()

    def test_told_is_the_askers_own(self):
        for box, names, row in row_cases(211, 40):
            table = table_of(box, names, row)
            kept = snapshot(table)
            for asked in (lambda: table_of(box, names, row), lambda: behind(box, table, table), lambda: undone_table(box, table),
                          lambda: many_times(box, table, 1), lambda: many_times(box, table, 0), lambda: many_times(box, table, 10 ** 18)):
                told = asked()
                ahead = snapshot(told)
                self.assertEqual(len({id(entry) for entry in told.values()}), len(told))
                self.spoil(told)
                self.assertTrue(same(asked(), ahead))
                self.assertTrue(same(table, kept))

    def test_handed_in_is_changed_behind_the_call(self):
        for box, names, table in table_cases(212, 40):
            stamps = Stamps(faces_for(random.Random(213), box, names))
            told = [behind(box, table, table), many_times(box, table, 1), many_times(box, table, 2), made(table, stamps).faces()]
            kept = snapshot(told)
            self.spoil(table)
            self.assertTrue(same(told, kept))

    def test_whatever_the_order_of_names(self):
        for box, _, table in table_cases(214, 60):
            other = {name: {source: table[name][source] for source in reversed(list(table[name]))} for name in reversed(list(table))}
            self.assertTrue(same(behind(box, table, other), behind(box, other, table)))
            self.assertTrue(same(many_times(box, table, 5), many_times(box, other, 5)))
            if is_led_back(table):
                self.assertTrue(same(undone_table(box, table), undone_table(box, other)))
