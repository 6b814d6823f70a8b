"""[2], [16], [20] Whether a thing is of a kind."""

import itertools
import unittest

from faceonface.kinds import is_box, is_deed, is_face, is_name, is_turning, is_whole
from helper import TURNINGS, cells_of, drawn, odd_things, same, snapshot

ALL = [is_whole, is_name, is_box, is_face, is_turning, is_deed]


class Kinds(unittest.TestCase):
    def told(self, asked, truth, *things):
        """Each of the things is told so, by the truth itself, also when asked again."""
        for thing in things:
            with self.subTest(asked=asked.__name__, thing=thing):
                self.assertIs(asked(thing), truth)
                self.assertIs(asked(thing), truth)


class Whole(Kinds):
    def test_numbers(self):
        self.told(is_whole, True, 0, 1, -1, 7, 10 ** 18, -(10 ** 18), 10 ** 900, -(10 ** 900))

    def test_others(self):
        self.told(is_whole, False, True, False, None, "", "1", (), (1,), [], [1], {}, {1: 1}, b"1")


class Name(Kinds):
    def test_names(self):
        self.told(is_name, True, "a", "z", "m", "ab", "press", "abcdefg", "abcdefgh", "zzzzzzzz")
        self.told(is_name, True, *"abcdefghijklmnopqrstuvwxyz")

    def test_other_texts(self):
        self.told(is_name, False, "", "abcdefghi", "a" * 900, "A", "aB", "Ab", "a1", "1", "1a", "a b", " a", "a ", " ")
        self.told(is_name, False, "a\n", "\na", "\n", "a\nb", "abcdefgh\n", "a-b", "a_b", "a.b", "a'")

    def test_each_other_sign(self):
        signs = [chr(code) for code in range(32, 127) if chr(code) not in "abcdefghijklmnopqrstuvwxyz%"]
        self.told(is_name, False, *[text for sign in signs for text in (sign, "a" + sign, sign + "a", f"a{sign}a")])

    def test_no_texts(self):
        self.told(is_name, False, 0, 1, True, None, ("a",), ["a"], {"a": "a"}, b"a", ("a", "b"), list("abc"))


class Box(Kinds):
    def test_all_of_them(self):
        for wide, high in itertools.product(range(-2, 10), repeat=2):
            self.told(is_box, 1 <= wide <= 6 and 1 <= high <= 6, (wide, high))

    def test_others(self):
        self.told(is_box, False, (0, 1), (1, 0), (7, 1), (1, 7), (10 ** 30, 1), (1, -1))
        self.told(is_box, False, (True, 1), (1, True), (True, True), (False, 1), (1, None), (None, 1), ("1", 1))
        self.told(is_box, False, (1, "1"), ((1,), 1), (1, [1]), [1, 1], (), (1,), (1, 1, 1), "11", "", 11, None, {})
        self.told(is_box, False, {1: 1, 2: 2}, [(1, 1)], ((1, 1),), (1, 2) * 450)


class Face(Kinds):
    def test_one_of_each_box(self):
        for wide, high in itertools.product(range(1, 10), repeat=2):
            for sign in "o.":
                self.told(is_face, wide <= 6 and high <= 6, (sign * wide,) * high)

    def test_each_single_cell(self):
        for cell in cells_of((6, 6)):
            self.told(is_face, True, drawn((6, 6), {cell}))

    def test_another_sign_in_each_place(self):
        for (x, y), sign in itertools.product(cells_of((3, 3)), "O0, x\no"):
            rows = [list("o.o") for _ in range(3)]
            rows[y][x] = sign
            self.told(is_face, sign == "o", tuple("".join(row) for row in rows))

    def test_lists_and_texts(self):
        self.told(is_face, False, ["o."], ["o.", ".o"], "o", "o.", "o./.o", {"o": "."}, {"o.": 1}, None, 1, True)

    def test_lengths(self):
        self.told(is_face, False, (), ("",), ("", ""), ("o", ""), ("", "o"), ("o",) * 7, ("o" * 7,), ("o" * 7,) * 7)
        self.told(is_face, False, ("o", "oo"), ("oo", "o"), ("oo", "oo", "o"), ("o", "oo", "oo"), ("oo", "o", "oo"))
        self.told(is_face, False, ("o",) * 900, ("o" * 900,), ("o\n",), ("oo", "o\n"))

    def test_parts_that_are_no_texts(self):
        for part in (None, 1, True, ("o",), ["o"], {"o": "o"}, b"o", ("o", ".")):
            self.told(is_face, False, (part,), ("o", part), (part, "o"), ("oo", part), (part, part), ("o", part, "."))


class Turning(Kinds):
    def test_the_eight(self):
        self.told(is_turning, True, *TURNINGS)

    def test_nothing_else(self):
        self.told(is_turning, False, "", "r", "m", "0", "r4", "m4", "r-1", "R0", "M0", "r0 ", " r0", "r0\n", "r00", "rr0")
        self.told(is_turning, False, "r0m0", "0r", "l1", "s0", "turn", 0, 1, None, True, ("r0",), ["r0"], {"r0": 1}, ("r", 0))
        self.told(is_turning, False, ["r", "0"], ("r", "0"), b"r0", tuple(TURNINGS), list(TURNINGS), "r0" * 450)

    def test_all_short_texts(self):
        for text in itertools.product("rmRM0123456789 ", repeat=2):
            self.told(is_turning, "".join(text) in TURNINGS, "".join(text))


FACE = ("o.", "..")
DEEDS = [
    ("press", "a", "b"), ("press", "b", "a"), ("press", "abcdefgh", "z"), ("press", "press", "turn"),
    ("turn", "a", "r1"), ("turn", "a", "r2"), ("turn", "a", "r3"), ("turn", "abcdefgh", "r2"),
    ("cut", "a", FACE), ("cut", "a", ("o",)), ("cut", "a", ("oooooo",) * 6), ("cut", "cut", ("...",)),
    ("print", "a"), ("print", "abcdefgh"), ("print", "print"),
]
SPOILERS = [
    None, True, False, 0, 1, -5, "", "A", "abcdefghi", "a1", "a\n", "r0", "r1x", "m1", (), [], {}, ("a",), ["a"],
    {"a": "a"}, ("o", "oo"), ["o"], ("x",), (("o",),), ((("o",),),), [[]], {"a": {"b": []}}, b"a", ("print", "a"),
]


class Deed(Kinds):
    def test_each_sort(self):
        self.told(is_deed, True, *DEEDS)

    def test_another_word(self):
        for deed in DEEDS:
            for word in ("Press", "PRESS", "presses", "pres", " press", "press ", "press\n", "turned", "a", "", "stamp"):
                self.told(is_deed, False, (word, *deed[1:]))

    def test_a_word_of_another_sort(self):
        for deed in DEEDS:
            for word in ("press", "turn", "cut", "print"):
                self.told(is_deed, word == deed[0], (word, *deed[1:]))

    def test_too_many_or_too_few(self):
        for deed in DEEDS:
            self.told(is_deed, False, deed + deed[-1:], deed + ("b",), deed + (None,), deed + ("r1",), deed + (FACE,))
            self.told(is_deed, False, deed + ((),), deed[1:], deed[:-1], deed[:1], deed + deed, (deed,), deed * 300)
        self.told(is_deed, False, ())

    def test_parts_exchanged(self):
        for deed in (("press", "a", "b"), ("turn", "a", "r1"), ("cut", "a", FACE), ("print", "a")):
            for parts in itertools.permutations(deed):
                self.told(is_deed, parts in (deed, ("press", "b", "a")), parts)

    def test_no_tuple(self):
        for deed in DEEDS:
            self.told(is_deed, False, list(deed), " ".join(str(part) for part in deed), {part: 1 for part in deed}, [deed])

    def test_each_part_spoilt(self):
        for deed, spoiler in itertools.product(DEEDS, SPOILERS):
            for at in range(len(deed)):
                self.told(is_deed, False, deed[:at] + (spoiler,) + deed[at + 1:])

    def test_one_name_twice_in_a_press(self):
        self.told(is_deed, False, ("press", "a", "a"), ("press", "abcdefgh", "abcdefgh"), ("press", "press", "press"))

    def test_turnings_that_no_turn_has(self):
        for turning in TURNINGS:
            self.told(is_deed, turning in ("r1", "r2", "r3"), ("turn", "a", turning))

    def test_cut_by_no_face(self):
        for thing in (["o"], "o", ("o", "oo"), (), ("",), ("x",), ("o",) * 7, ("o" * 7,), "a", "r1", None, (1,), (None,)):
            self.told(is_deed, False, ("cut", "a", thing))


class Anything(unittest.TestCase):
    def test_a_truth_of_whatever_is_handed_in(self):
        for asked in ALL:
            for thing in odd_things():
                ahead = snapshot(thing)
                answer = asked(thing)
                self.assertIn(answer, (True, False))
                self.assertIs(type(answer), bool)
                self.assertIs(asked(thing), answer)
                self.assertTrue(same(ahead, thing))

    def test_odd_things_in_each_place(self):
        for asked in ALL:
            for thing in odd_things():
                for around in ((thing,), (thing, thing), (1, thing), ("cut", "a", thing), ("cut", thing, ("o",)),
                               (thing, "a", "b"), ("print", thing), ("press", "a", thing), ("turn", "a", thing)):
                    self.assertIs(type(asked(around)), bool)

    def test_how_many_of_the_odd_things_are_of_each_kind(self):
        many = [sum(asked(thing) for thing in odd_things()) for asked in ALL]
        self.assertEqual(many, [8, 4, 1, 1, 2, 2])
