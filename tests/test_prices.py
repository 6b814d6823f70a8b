"""[80] to [83], [3], [11] Standings, their prices, and the fewest deeds to a wish."""

import itertools
import random
import unittest

from faceonface.prices import fewest, is_fair, prices, standings
from faceonface.stamps import Stamps
from faceonface.webs import Web
from helper import (BOXES, deep, drawn, moves_plain, odd_things, plain_row, refusal, same, snapshot, some_face, some_web,
                    sparse_face)

SMALL = [(1, 1), (2, 1), (1, 2), (3, 1), (2, 2), (3, 3), (4, 2), (6, 6)]
PARTS = {"presses": [("a", "b"), ("b", "a")], "turns": [("a", "r2")], "panes": {}}
FACES = {"a": ("o.",), "b": ("..",)}
WISH = {"b": ("o.",)}


def reached_plain(faces, web, most=600):
    """The standings in the order that [80] tells, None where there are more than most."""
    told = [plain_row(faces, [])]
    for standing in told:
        for deed in moves_plain(web):
            behind = plain_row(standing, [deed])
            if behind not in told:
                told.append(behind)
                if len(told) > most:
                    return None
    return told


def costs_plain(web, press, turn):
    return [press if deed[0] == "press" else turn for deed in moves_plain(web)]


def meets(standing, wish):
    return all(standing[name] == face for name, face in wish.items())


def least_plain(reached, web, wish, press, turn):
    """For each standing the least cost to the wish, None where there is none: sums until none gets less."""
    moves, costs = moves_plain(web), costs_plain(web, press, turn)
    places = {tuple(standing.values()): at for at, standing in enumerate(reached)}
    leads = [[places[tuple(plain_row(standing, [deed]).values())] for deed in moves] for standing in reached]
    told = [0 if meets(standing, wish) else None for standing in reached]
    changed = True
    while changed:
        changed = False
        for at, ends in enumerate(leads):
            for end, cost in zip(ends, costs):
                if told[end] is not None and (told[at] is None or told[at] > told[end] + cost):
                    told[at] = told[end] + cost
                    changed = True
    return told


def fewest_plain(faces, web, wish, price, press, turn):
    """Of how many deeds the shortest row is that meets the wish at a price, by going through rows by their length."""
    moves, costs = moves_plain(web), costs_plain(web, press, turn)
    step = {(tuple(plain_row(faces, []).items()), 0)}
    length = 0
    while True:
        if any(spent == price and meets(dict(standing), wish) for standing, spent in step):
            return length
        step = {(tuple(plain_row(dict(standing), [deed]).items()), spent + cost) for standing, spent in step
                for deed, cost in zip(moves, costs) if spent + cost <= price}
        length += 1


def price_cases(seed, many, most=80, boxes=SMALL):
    """Tuples (box, names, web, faces, wish, press, turn) with at most so many standings."""
    chance = random.Random(seed)
    told = []
    while len(told) < many:
        box = chance.choice(boxes)
        names = chance.sample(["a", "b", "cc", "z"], chance.randint(1, 4))
        web = some_web(chance, box, names)
        faces = {name: chance.choice([some_face, sparse_face])(chance, box) for name in names}
        reached = reached_plain(faces, web, most)
        if reached:
            wished = chance.sample(names, chance.randint(1, len(names)))
            wish = {name: chance.choice(reached)[name] for name in wished}
            if len(told) % 3 == 1:
                wish = {name: chance.choice(reached[-3:])[name] for name in wished}
            if len(told) % 6 == 5:
                wish[wished[0]] = some_face(chance, box)
            told.append((box, names, web, faces, wish, chance.choice([0, 1, 1, 2, 9]), chance.choice([0, 0, 1, 3, 9])))
    return told


class Standings(unittest.TestCase):
    """[80]"""

    def test_as_told(self):
        web = Web((2, 1), ["b", "a"], **PARTS)
        told = standings(web, Stamps(FACES))
        self.assertEqual(told[:4], [{"a": ("o.",), "b": ("..",)}, {"a": ("o.",), "b": (".o",)}, {"a": (".o",), "b": ("..",)},
                                    {"a": ("..",), "b": (".o",)}])
        self.assertEqual(len(told), 12)
        self.assertEqual(standings(Web((2, 1), ["a", "b"], presses=[], turns=[], panes={}), Stamps(FACES)), [FACES])

    def test_in_the_order_told(self):
        sizes = []
        for box, names, web, faces, *_ in price_cases(501, 150):
            told = standings(Web(box, names, **web), Stamps(faces))
            self.assertEqual([list(one.items()) for one in told], [list(one.items()) for one in reached_plain(faces, web)])
            self.assertTrue(type(told) is list and all(type(one) is dict for one in told))
            sizes.append(len(told))
        self.assertGreater(max(sizes), 40)
        self.assertGreater(len(set(sizes)), 8)

    def test_just_as_many_as_most(self):
        for box, names, web, faces, *_ in price_cases(502, 60):
            made, stamps = Web(box, names, **web), Stamps(faces)
            many = len(reached_plain(faces, web))
            wish = dict(list(faces.items())[:1])
            for asked in (standings, lambda *two, **most: prices(*two, wish, **most), lambda *two, **most: fewest(*two, wish, **most)):
                for most in (many, many + 1, 600):
                    self.assertIsNone(refusal(asked, made, stamps, most=most))
                for most in (many - 1, many // 2, 1):
                    if 1 <= most < many:
                        self.assertEqual(refusal(asked, made, stamps, most=most), ("TooMany", {"most": most}))

    def great(self):
        """Faces, a web of more than 600 standings for them, and one of 96."""
        names = list("abcd")
        chance = random.Random(503)
        faces = {name: some_face(chance, (6, 6)) for name in names}
        two = {"presses": [("a", "b"), ("b", "a")], "turns": [("c", "r1"), ("d", "r1")], "panes": {}}
        return faces, {**two, "presses": [*two["presses"], ("a", "c")]}, two

    def test_most_left_out(self):
        faces, more, fewer = self.great()
        stamps = Stamps(faces)
        self.assertEqual(refusal(standings, Web((6, 6), list(faces), **more), stamps), ("TooMany", {"most": 600}))
        self.assertEqual(refusal(prices, Web((6, 6), list(faces), **more), stamps, faces), ("TooMany", {"most": 600}))
        self.assertEqual(refusal(fewest, Web((6, 6), list(faces), **more), stamps, faces), ("TooMany", {"most": 600}))
        self.assertEqual(len(standings(Web((6, 6), list(faces), **fewer), stamps)), 96)
        six = {**faces, "e": faces["c"][::-1], "f": faces["d"][::-1]}
        parts = {**fewer, "turns": [*fewer["turns"], ("e", "r1")], "presses": [*fewer["presses"]]}
        self.assertEqual(len(standings(Web((6, 6), list(six), **parts), Stamps(six))), 384)
        parts["turns"].append(("f", "r2"))
        self.assertEqual(refusal(standings, Web((6, 6), list(six), **parts), Stamps(six)), ("TooMany", {"most": 600}))

    def test_nearly_six_hundred(self):
        # Six for each two that are pressed on one another, four for each that is turned: 576.
        chance = random.Random(504)
        faces = {name: some_face(chance, (6, 6)) for name in "abcdef"}
        web = Web((6, 6), list("abcdef"), presses=[("a", "b"), ("b", "a"), ("c", "d"), ("d", "c")],
                  turns=[("e", "r1"), ("f", "r3")], panes={})
        self.assertEqual(len(standings(web, Stamps(faces))), 576)
        self.assertEqual(len(prices(web, Stamps(faces), {"a": faces["a"]})), 576)
        self.assertEqual(refusal(standings, web, Stamps(faces), most=575), ("TooMany", {"most": 575}))

    def test_unlike_ahead_of_too_many(self):
        web = Web((2, 1), ["a", "b"], **PARTS)
        for faces in ({"a": ("o.",)}, {"a": ("o.",), "c": ("..",)}, {"a": ("o", "."), "b": (".", ".")},
                      {"a": ("o.",), "b": ("..",), "c": ("..",)}, {"a": ("o",), "b": (".",)}):
            for most in (1, 600):
                self.assertEqual(refusal(standings, web, Stamps(faces), most=most), ("Unlike", {}))
                self.assertEqual(refusal(prices, web, Stamps(faces), dict(faces), most=most, press=2), ("Unlike", {}))
                self.assertEqual(refusal(fewest, web, Stamps(faces), dict(faces), turn=9, most=most), ("Unlike", {}))


class Prices(unittest.TestCase):
    """[81]"""

    def test_as_told(self):
        web = Web((2, 1), ["a", "b"], **PARTS)
        told = dict((tuple(one.values()), price) for one, price in prices(web, Stamps(FACES), WISH))
        self.assertEqual(told[("o.",), ("..",)], 1)
        self.assertEqual(told[(".o",), ("..",)], 1)
        self.assertEqual(told[("..",), ("o.",)], 0)
        told = dict((tuple(one.values()), price) for one, price in prices(web, Stamps(FACES), WISH, turn=5, press=2))
        self.assertEqual((told[("o.",), ("..",)], told[(".o",), ("..",)], told[("..",), (".o",)]), (7, 2, 11))

    def test_least_costs(self):
        found = []
        for box, names, web, faces, wish, press, turn in price_cases(511, 150):
            reached = reached_plain(faces, web)
            told = prices(Web(box, names, **web), Stamps(faces), wish, press=press, turn=turn)
            self.assertEqual(told, list(zip(reached, least_plain(reached, web, wish, press, turn))))
            self.assertTrue(type(told) is list and all(type(pair) is tuple and type(pair[0]) is dict for pair in told))
            self.assertTrue(all(type(price) in (int, type(None)) for _, price in told))
            self.assertTrue(all(list(one) == sorted(names) for one, _ in told))
            found += [price for _, price in told]
        self.assertIn(None, found)
        self.assertGreater(max(price for price in found if price is not None), 20)

    def test_left_out_and_in_any_order(self):
        for box, names, web, faces, wish, *_ in price_cases(512, 40):
            made, stamps = Web(box, names, **web), Stamps(faces)
            reached = reached_plain(faces, web)
            self.assertEqual(prices(made, stamps, wish), list(zip(reached, least_plain(reached, web, wish, 1, 0))))
            self.assertEqual(prices(made, stamps, wish, press=4), list(zip(reached, least_plain(reached, web, wish, 4, 0))))
            self.assertEqual(prices(made, stamps, wish, turn=4), list(zip(reached, least_plain(reached, web, wish, 1, 4))))
            self.assertEqual(prices(made, stamps, wish, turn=3, most=599, press=0), prices(made, stamps, wish, press=0, turn=3))

    def test_both_nothing(self):
        for box, names, web, faces, wish, *_ in price_cases(513, 40):
            told = prices(Web(box, names, **web), Stamps(faces), wish, press=0, turn=0)
            reached = reached_plain(faces, web)
            self.assertEqual(told, list(zip(reached, least_plain(reached, web, wish, 0, 0))))
            self.assertLessEqual({price for _, price in told}, {0, None})


class Fewest(unittest.TestCase):
    """[82]"""

    def look_through(self, case):
        box, names, web, faces, wish, press, turn = case
        reached = reached_plain(faces, web)
        least = least_plain(reached, web, wish, press, turn)
        told = fewest(Web(box, names, **web), Stamps(faces), wish, press=press, turn=turn)
        self.assertEqual((type(told), len(told), type(told[1])), (tuple, 2, list))
        if least[0] is None:
            self.assertEqual(told, ("never", list(zip(reached, least))))
            return None
        self.assertEqual(told[0], "row")
        moves = moves_plain(web)
        self.assertTrue(all(deed in moves for deed in told[1]))
        self.assertTrue(meets(plain_row(faces, told[1]), wish))
        self.assertEqual(sum(press if deed[0] == "press" else turn for deed in told[1]), least[0])
        self.assertEqual(len(told[1]), fewest_plain(faces, web, wish, least[0], press, turn))
        return len(told[1])

    def test_as_told(self):
        web = Web((2, 1), ["a", "b"], **PARTS)
        stamps = Stamps(FACES)
        self.assertEqual(fewest(web, stamps, WISH), ("row", [("turn", "a", "r2"), ("press", "a", "b")]))
        self.assertEqual(fewest(web, stamps, {"b": (".o",)}), ("row", [("press", "a", "b")]))
        self.assertEqual(fewest(web, stamps, {"b": ("..",)}), ("row", []))
        told = fewest(web, stamps, {"a": ("oo",), "b": ("oo",)})
        self.assertEqual(told, ("never", prices(web, stamps, {"a": ("oo",), "b": ("oo",)})))
        self.assertEqual({price for _, price in told[1]}, {None})

    def test_cheapest_ahead_of_shortest(self):
        # By r1 three times at no more than by a press: what costs less goes first, then what has fewer deeds.
        web = Web((2, 2), ["a", "b"], presses=[("b", "a")], turns=[("a", "r1"), ("a", "r2")], panes={})
        stamps = Stamps({"a": ("o.", ".."), "b": (".o", "o.")})
        wish = {"a": ("..", "o.")}
        self.assertEqual(len(fewest(web, stamps, wish)[1]), 2)
        self.assertEqual(len(fewest(web, stamps, wish, turn=2, press=1)[1]), 2)
        web = Web((2, 2), ["a", "b"], presses=[("b", "a")], turns=[("a", "r1")], panes={})
        self.assertEqual(fewest(web, stamps, wish), ("row", [("turn", "a", "r1")] * 3))
        one = Stamps({"a": ("o.", ".."), "b": (".o", ".o")})
        self.assertEqual(fewest(web, one, {"a": ("..", "o.")}, press=9, turn=1), ("row", [("turn", "a", "r1")] * 3))
        self.assertEqual(fewest(web, one, {"a": ("..", "o.")}, press=1, turn=9), ("row", [("press", "b", "a")]))
        self.assertEqual(fewest(web, one, {"a": ("..", "o.")}, press=0, turn=0), ("row", [("press", "b", "a")]))
        self.assertEqual(fewest(web, one, {"a": ("..", "o.")}, press=3, turn=1), ("row", [("press", "b", "a")]))

    def test_all_sorts(self):
        found = [self.look_through(case) for case in price_cases(521, 150, 50)]
        self.assertGreater(found.count(None), 8)
        self.assertGreater(found.count(0), 8)
        self.assertGreater(max(length for length in found if length), 4)

    def test_both_nothing(self):
        for case in price_cases(522, 60, 50):
            self.look_through((*case[:5], 0, 0))

    def test_wish_that_is_met(self):
        for box, names, web, faces, _, press, turn in price_cases(523, 40):
            made, stamps = Web(box, names, **web), Stamps(faces)
            self.assertEqual(fewest(made, stamps, dict(faces), press=press, turn=turn), ("row", []))
            self.assertEqual(fewest(made, stamps, {names[0]: faces[names[0]]}), ("row", []))

    def test_left_out_and_in_any_order(self):
        for box, names, web, faces, wish, *_ in price_cases(524, 40):
            made, stamps = Web(box, names, **web), Stamps(faces)
            self.assertEqual(fewest(made, stamps, wish), fewest(made, stamps, wish, turn=0, most=600, press=1))


class Fair(unittest.TestCase):
    """[83]"""

    def tell(self, thing, box=(2, 1), names=("a", "b"), web=PARTS, faces=FACES, wish=WISH, press=1, turn=0):
        """What is_fair tells; nothing that is handed in is changed."""
        stamps = Stamps(faces)
        kept = snapshot((thing, wish))
        told = is_fair(Web(box, list(names), **web), stamps, wish, thing, press=press, turn=turn)
        self.assertIs(type(told), bool)
        self.assertTrue(same(kept, (thing, wish)))
        self.assertEqual(stamps.faces(), faces)
        return told

    def good(self, **costs):
        return prices(Web((2, 1), ["a", "b"], **PARTS), Stamps(FACES), WISH, **costs)

    def no(self, *things):
        for thing in things:
            self.assertFalse(self.tell(thing), thing)

    def fair_plain(self, case, pairs):
        """Whether well made pairs are fair, clause by clause as [83] says it."""
        _, _, web, faces, wish, press, turn = case
        known = {tuple(sorted(one.items())): price for one, price in pairs}
        if len(known) != len(pairs) or tuple(sorted(faces.items())) not in known:
            return False
        for one, price in pairs:
            if meets(one, wish) and price != 0:
                return False
            for deed, cost in zip(moves_plain(web), costs_plain(web, press, turn)):
                key = tuple(sorted(plain_row(one, [deed]).items()))
                if key not in known:
                    return False
                if known[key] is not None and (price is None or price > cost + known[key]):
                    return False
        return True

    def test_what_prices_tells(self):
        chance = random.Random(531)
        for case in price_cases(532, 120):
            box, names, web, faces, wish, press, turn = case
            told = prices(Web(box, names, **web), Stamps(faces), wish, press=press, turn=turn)
            self.assertTrue(self.tell(told, *case))
            mixed = [(dict(reversed(one.items())), price) for one, price in chance.sample(told, len(told))]
            self.assertTrue(self.tell(mixed, *case))
            # Less than it costs is fair, too; None stays where nothing leads to the wish.
            self.assertTrue(self.tell([(one, 0 if price is not None else None) for one, price in told], *case))
            self.assertTrue(self.tell([(one, 0) for one, price in told], *case))
            halved = [(one, price and price // 2) for one, price in told]
            self.assertIs(self.tell(halved, *case), self.fair_plain(case, halved))

    def test_spoilt_by_chance(self):
        """One price changed: fair just where it is by the test's own reckoning."""
        chance = random.Random(533)
        found = []
        for case in price_cases(534, 150, 30):
            box, names, web, faces, wish, press, turn = case
            told = prices(Web(box, names, **web), Stamps(faces), wish, press=press, turn=turn)
            for _ in range(4):
                at = chance.randrange(len(told))
                one, price = told[at]
                changed = chance.choice([None, 0, 1, (price or 0) + 1, max(0, (price or 0) - 1), 10 ** 30])
                pairs = told[:at] + [(one, changed)] + told[at + 1:]
                found.append(self.fair_plain(case, pairs))
                self.assertIs(self.tell(pairs, *case), found[-1])
            less = told[:1] + told[2:]
            self.assertIs(self.tell(less, *case), self.fair_plain(case, less))
            if len(told) > 1:
                self.assertFalse(self.tell(less, *case))
                self.assertFalse(self.tell(told[1:], *case))
            self.assertFalse(self.tell(told + told[:1], *case))
        self.assertGreater(min(found.count(True), found.count(False)), 60)

    def test_a_price_too_great(self):
        good = self.good()
        self.assertTrue(self.tell(good))
        for at, (one, price) in enumerate(good):
            for greater in (price + 1, price + 10, 10 ** 30, None):
                self.no(good[:at] + [(one, greater)] + good[at + 1:])

    def test_costs_matter(self):
        good = self.good(press=2, turn=5)
        self.assertTrue(self.tell(good, press=2, turn=5))
        self.assertTrue(self.tell(good, press=3, turn=9))
        self.assertFalse(self.tell(good, press=2, turn=4))
        self.assertFalse(self.tell(good, press=1, turn=5))
        self.assertFalse(self.tell(good))
        web, stamps = Web((2, 1), ["a", "b"], **PARTS), Stamps(FACES)
        self.assertTrue(is_fair(web, stamps, WISH, self.good()))
        self.assertTrue(is_fair(web, stamps, WISH, good, turn=5, press=2))
        self.assertFalse(is_fair(web, stamps, WISH, self.good(press=2)))
        self.assertFalse(is_fair(web, stamps, WISH, self.good(turn=1)))

    def test_a_standing_left_out_or_twice(self):
        good = self.good()
        for at in range(len(good)):
            self.no(good[:at] + good[at + 1:], good + [good[at]], good + [(dict(reversed(good[at][0].items())), good[at][1])],
                    good + [(good[at][0], None)])
        self.no([], good + good)

    def test_standings_that_never_come(self):
        # Others may stand in the list where deeds lead from them to such in the list.
        good = self.good()
        blank = {"a": ("..",), "b": ("..",)}
        self.assertTrue(self.tell([*good, (blank, None)]))
        self.assertTrue(self.tell([*good, (blank, 7)]))
        self.no([*good, ({"a": ("oo",), "b": ("..",)}, None)])
        # The stamps' own must be among them.
        self.no([(blank, None)], [(blank, 0)])

    def test_that_meets_the_wish(self):
        good = self.good()
        for at, (one, price) in enumerate(good):
            if price == 0:
                for bad in (1, None, False, 10 ** 30):
                    self.no(good[:at] + [(one, bad)] + good[at + 1:])
        still = {"presses": [], "turns": [], "panes": {}}
        self.assertTrue(self.tell([(FACES, 0)], web=still, wish={"a": ("o.",)}))
        self.assertFalse(self.tell([(FACES, 1)], web=still, wish={"a": ("o.",)}))
        self.assertFalse(self.tell([(FACES, None)], web=still, wish={"a": ("o.",)}))
        for price in (0, 1, 10 ** 30, None):
            self.assertTrue(self.tell([(FACES, price)], web=still, wish={"a": ("oo",)}))
        for price in (-1, -(10 ** 30), True, False, "0", (0,)):
            self.assertFalse(self.tell([(FACES, price)], web=still, wish={"a": ("oo",)}))

    def test_none_is_above_all_numbers(self):
        web = {"presses": [("a", "b")], "turns": [], "panes": {}}
        pair = [FACES, {"a": ("o.",), "b": (".o",)}]
        for one, other in itertools.product((0, 1, 2, 10 ** 40, None), repeat=2):
            due = one == other or None not in (one, other) and abs(one - other) <= 1
            told = self.tell(list(zip(pair, (one, other))), web=web, wish={"a": ("oo",)})
            self.assertIs(told, due)

    def test_names_and_boxes(self):
        good = self.good()
        one, price = good[0]
        for bad in ({**one, "c": ("..",)}, {"a": one["a"]}, {}, {"a": one["a"], "c": one["b"]}, {**one, "a": ("o..",)}, {**one, 1: None},
                    {"a": ("o", "."), "b": (".", ".")}, {**one, "a": ["o."]}, {**one, "a": "o."}, {**one, "b": ("ox",)}, {**one, "b": None},
                    list(one.items()), tuple(one.values()), {("a",): one["a"], "b": one["b"]}):
            self.no([(bad, price), *good[1:]], [*good, (bad, price)], [*good, (bad, None)])

    def test_kinds(self):
        good = self.good()
        one, price = good[0]
        for bad in (True, False, -1, -(10 ** 30), "1", (1,), [1], {}, "", b"1"):
            self.no([(one, bad), *good[1:]])
        self.no(tuple(good), [list(pair) for pair in good], dict(enumerate(good)), [(price, one) for one, price in good],
                [(one,) for one, _ in good], [(one, price, price) for one, price in good], ("never", good), [good], None,
                [one for one, _ in good], [((one, price),) for one, price in good])

    def test_truths_for_numbers(self):
        good = self.good()
        for at, (one, price) in enumerate(good):
            if price in (0, 1):
                self.no(good[:at] + [(one, bool(price))] + good[at + 1:])

    def test_things_of_any_kind(self):
        good = self.good()
        for thing in odd_things():
            self.no(thing, [thing], (thing,), [*good, thing], [thing, *good], [(thing, 0), *good], [(thing, thing)], {"a": thing},
                    [*good, ({"a": thing, "b": thing}, 0)])
            if not (type(thing) is int and thing in (0, 1)):
                self.no([(good[0][0], thing), *good[1:]])

    def test_deep_and_of_many_parts(self):
        good = self.good()
        for kind in (tuple, list, dict):
            for inmost in (good, good[0], FACES, 0, ("o.",)):
                thing = deep(kind, inmost)
                self.no(thing, [thing], [*good, thing], [(thing, 0)], [*good, (good[0][0], thing)], [*good, ({"a": thing, "b": thing}, 0)])
        self.no(good * 1300, [None] * 900, [()] * 99000, [({}, 0)] * 33000, "o" * 99000, tuple(range(99000)),
                {n: n for n in range(33000)}, [(FACES, 0)] * 12000, good + [(FACES, None)] * 12000)

    def test_many_standings(self):
        names = list("abcdef")
        faces = {name: ("o",) for name in names}
        every = [dict(zip(names, signs)) for signs in itertools.product([("o",), (".",)], repeat=6)]
        web = {"presses": list(itertools.permutations(names, 2)), "turns": [(name, "r1") for name in names], "panes": {}}
        self.assertTrue(self.tell([(one, 0) for one in every], (1, 1), names, web, faces, {"a": (".",)}))
        wide = [dict(zip("abc", signs)) for signs in itertools.product([("o.",), ("..",), ("oo",), (".o",)], repeat=3)]
        web = {"presses": list(itertools.permutations("abc", 2)), "turns": [(name, "r2") for name in "abc"], "panes": {}}
        self.assertTrue(self.tell([(one, 0) for one in wide], (2, 1), "abc", web, wide[0], {"a": ("oo",)}))
        self.assertFalse(self.tell([(one, 0) for one in wide[:-1]], (2, 1), "abc", web, wide[0], {"a": ("oo",)}))

    def test_unlike(self):
        web = Web((2, 1), ["a", "b"], **PARTS)
        for faces in ({"a": ("o.",)}, {"a": ("o.",), "c": ("..",)}, {"a": ("o", "."), "b": (".", ".")}, {"a": ("o",), "b": (".",)}):
            for thing in (self.good(), [], None, {}, deep(list), [(faces, 0)]):
                self.assertEqual(refusal(is_fair, web, Stamps(faces), dict(faces), thing, press=0), ("Unlike", {}))

    def test_a_fair_price_is_never_above_what_a_row_costs(self):
        """[11] And a fair None says that there is no row."""
        for case in price_cases(535, 60, 40):
            box, names, web, faces, wish, press, turn = case
            told = fewest(Web(box, names, **web), Stamps(faces), wish, press=press, turn=turn)
            if told[0] == "never":
                self.assertTrue(self.tell(told[1], *case))
            else:
                cost = sum(press if deed[0] == "press" else turn for deed in told[1])
                listed = prices(Web(box, names, **web), Stamps(faces), wish, press=press, turn=turn)
                self.assertEqual(listed[0][1], cost)
                self.assertFalse(self.tell([(one, price if at else price + 1) for at, (one, price) in enumerate(listed)], *case)
                                 and told[1])


class Own(unittest.TestCase):
    """[3]"""

    def test_handed_in_stays_and_told_is_the_askers_own(self):
        for box, names, web, faces, wish, press, turn in price_cases(541, 40, 30):
            made, stamps = Web(box, names, **web), Stamps(faces)
            kept = snapshot(wish)
            asks = [lambda: standings(made, stamps), lambda: prices(made, stamps, wish, press=press, turn=turn),
                    lambda: fewest(made, stamps, wish, press=press, turn=turn)[1]]
            for asked in asks:
                told = asked()
                due = snapshot(told)
                for part in told:
                    one = part[0] if isinstance(part, tuple) else part
                    if isinstance(one, dict):
                        one["a"] = None
                        one["zz"] = None
                told.append(None)
                told.reverse()
                self.assertTrue(same(asked(), due))
            self.assertTrue(same(wish, kept))
            self.assertEqual(stamps.faces(), faces)

    def test_nothing_hangs_on_the_order(self):
        chance = random.Random(542)
        for box, names, web, faces, wish, press, turn in price_cases(543, 40, 30):
            mixed = {word: chance.sample(web[word], len(web[word])) for word in ("presses", "turns")}
            other = Web(box, names[::-1], **mixed, panes={name: drawn(box, set()) for name in names})
            made = Web(box, names, **web)
            round_wish, round_faces = dict(reversed(wish.items())), dict(reversed(faces.items()))
            self.assertTrue(same(standings(made, Stamps(faces)), standings(other, Stamps(round_faces))))
            for asked in (prices, fewest):
                self.assertTrue(same(asked(made, Stamps(faces), wish, press=press, turn=turn),
                                     asked(other, Stamps(round_faces), round_wish, turn=turn, press=press)))

    def test_each_box(self):
        chance = random.Random(544)
        for box in BOXES:
            faces = {"b": some_face(chance, box), "a": some_face(chance, box)}
            web = {"presses": [("a", "b"), ("b", "a")], "turns": [], "panes": {}}
            self.assertEqual(standings(Web(box, ["b", "a"], **web), Stamps(faces)), reached_plain(faces, web))
