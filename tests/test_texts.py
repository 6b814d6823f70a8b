"""[90], [3] What is written and read back."""

import random
import re
import unittest

from faceonface.stamps import Stamps
from faceonface.texts import read_deed, read_face, read_row, read_stamps, show_deed, show_face, show_row, show_stamps
from helper import (BOXES, cases, deep, drawn, odd_things, refusal, same, snapshot, some_face, some_faces, some_row)

READERS = (read_face, read_deed, read_row, read_stamps)
NO_TEXT = ("NoText", {})
NAME = "[a-z]{1,8}"
FACE = "[o.]{1,6}(?:/[o.]{1,6}){0,5}"


def is_face_text(text):
    """Whether a text writes a face, by a pattern."""
    return bool(re.fullmatch(FACE, text)) and len({len(part) for part in text.split("/")}) == 1


def is_deed_text(text):
    if re.fullmatch(f"press {NAME} {NAME}", text):
        return text.split()[1] != text.split()[2]
    if re.fullmatch(f"turn {NAME} r[123]|print {NAME}", text):
        return True
    return bool(re.fullmatch(f"cut {NAME} {FACE}", text)) and is_face_text(text.split()[2])


def is_row_text(text):
    return text == "" or text.endswith("\n") and all(is_deed_text(line) for line in text[:-1].split("\n"))


def is_stamps_text(text):
    if not re.fullmatch(f"(?:{NAME} {FACE}\n){{1,6}}", text):
        return False
    names, faces = zip(*(line.split(" ") for line in text.splitlines()))
    boxes = {tuple(len(part) for part in face.split("/")) for face in faces}
    return list(names) == sorted(set(names)) and len(boxes) == 1 and all(map(is_face_text, faces))


PATTERNS = {read_face: is_face_text, read_deed: is_deed_text, read_row: is_row_text, read_stamps: is_stamps_text}


def shown_again(reader, told):
    """What is read written again."""
    return {read_face: show_face, read_deed: show_deed, read_row: show_row, read_stamps: show_stamps}[reader](told)


class Written(unittest.TestCase):
    def test_as_told(self):
        self.assertEqual(show_face(("o.", "oo")), "o./oo")
        self.assertEqual(show_face(("o",)), "o")
        self.assertEqual(show_face(("o", ".")), "o/.")
        self.assertEqual(show_deed(("press", "a", "b")), "press a b")
        self.assertEqual(show_deed(("turn", "a", "r1")), "turn a r1")
        self.assertEqual(show_deed(("cut", "a", ("o.", "oo"))), "cut a o./oo")
        self.assertEqual(show_deed(("print", "a")), "print a")
        self.assertEqual(show_row([]), "")
        self.assertEqual(show_row([("print", "a")]), "print a\n")
        self.assertEqual(show_row([("cut", "a", ("o",)), ("press", "b", "cut"), ("turn", "cut", "r3")]),
                         "cut a o\npress b cut\nturn cut r3\n")
        self.assertEqual(show_stamps(Stamps({"b": ("..", "oo"), "a": ("o.", "..")})), "a o./..\nb ../oo\n")
        self.assertEqual(show_stamps(Stamps({"longname": ("o",)})), "longname o\n")

    def test_read_as_told(self):
        self.assertEqual(read_face("o./oo"), ("o.", "oo"))
        self.assertEqual(read_deed("press a b"), ("press", "a", "b"))
        self.assertEqual(read_deed("turn a r1"), ("turn", "a", "r1"))
        self.assertEqual(read_deed("cut a o./oo"), ("cut", "a", ("o.", "oo")))
        self.assertEqual(read_deed("print a"), ("print", "a"))
        self.assertEqual(read_row("print a\npress a b\n"), [("print", "a"), ("press", "a", "b")])
        self.assertEqual(read_row(""), [])
        self.assertEqual(read_stamps("a o./..\nb ../oo\n").faces(), {"a": ("o.", ".."), "b": ("..", "oo")})

    def test_words_as_names(self):
        for deed in (("press", "press", "turn"), ("turn", "cut", "r1"), ("print", "print"), ("cut", "o", ("o",)), ("press", "o", "r")):
            self.assertEqual(read_deed(show_deed(deed)), deed)


class ThereAndBack(unittest.TestCase):
    def test_faces(self):
        chance = random.Random(601)
        for box in BOXES * 2:
            face = some_face(chance, box)
            self.assertEqual(show_face(face), "/".join(face))
            self.assertTrue(same(read_face(show_face(face)), face))

    def test_deeds_and_rows(self):
        for box, faces, row in cases(150, length=40):
            for deed in row:
                text = " ".join([*deed[:2], "/".join(deed[2])] if deed[0] == "cut" else deed)
                self.assertEqual(show_deed(deed), text)
                self.assertTrue(same(read_deed(text), deed))
            self.assertEqual(show_row(row), "".join(show_deed(deed) + "\n" for deed in row))
            self.assertTrue(same(read_row(show_row(row)), row))

    def test_stamps(self):
        for box, faces, _ in cases(150):
            text = "".join(f"{name} {'/'.join(faces[name])}\n" for name in sorted(faces))
            self.assertEqual(show_stamps(Stamps(faces)), text)
            told = read_stamps(text)
            self.assertIs(type(told), Stamps)
            self.assertEqual(list(told.faces().items()), sorted(faces.items()))

    def test_twelve_hundred_deeds(self):
        chance = random.Random(602)
        faces = some_faces(chance, (6, 6), 6)
        row = some_row(chance, (6, 6), faces, 1200, ("press", "turn", "print"))
        text = show_row(row)
        self.assertEqual(text.count("\n"), 1200)
        self.assertEqual(read_row(text), row)
        row = some_row(chance, (6, 6), faces, 1200)
        self.assertEqual(read_row(show_row(row)), row)

    def test_of_any_names_and_boxes(self):
        row = [("cut", "a", ("o",)), ("cut", "a", ("oooooo",) * 6), ("turn", "zzzzzzzz", "r1"), ("cut", "b", (".", "o"))]
        row += [("print", letter * length) for letter in "bcdefgh" for length in range(1, 9)]
        self.assertEqual(read_row(show_row(row)), row)

    def test_thirty_thousand_signs(self):
        text = "print a\n" * 3750
        self.assertEqual(len(text), 30000)
        self.assertEqual(read_row(text), [("print", "a")] * 3750)
        self.assertEqual(show_row([("print", "a")] * 3750), text)
        self.assertEqual(refusal(read_row, text[:-1]), NO_TEXT)
        self.assertEqual(refusal(read_row, text[:-8] + "print A\n"), NO_TEXT)
        for sign in "o./ \na:~0":
            for reader in READERS:
                self.assertEqual(refusal(reader, sign * 30000), NO_TEXT)
        for word in ("o/", "o.", "print a ", "a o\n", "cut a ", "cut a o\n ", "press a b", "\no", "a "):
            for reader in READERS:
                self.assertEqual(refusal(reader, (word * 30000)[:30000]), NO_TEXT)


class Refused(unittest.TestCase):
    FACES = ["", "/", "o/", "/o", "o//o", "o/oo", "oo/o", "ooooooo", "o/o/o/o/o/o/o", "x", "O", "o o", " o", "o ", "o\n", "\no", "o./oo\n",
             "o,/oo", "0", "o\\o", "o./oo/", "o./o", "a o", "o|o", "o-o", ".o/.o/..o", "o./oo ", " o./oo"]
    DEEDS = ["", " ", "press", "press a", "press a a", "press a b c", "press a  b", " press a b", "press a b ", "press a b\n", "press  a b",
             "Press a b", "press A b", "press a b1", "press abcdefghi a", "press a abcdefghi", "press a\nb", "press,a,b", "press a o./oo",
             "press a ", "turn a", "turn a r0", "turn a m0", "turn a m1", "turn a m2", "turn a m3", "turn a r4", "turn a b", "turn a r",
             "turn a 1", "turn a R1", "turn a r1 ", "turn  a r1", "turn a r1 r1", "turn r1 a", "turn abcdefghi r1", "turn a r1\n",
             "cut a", "cut a ", "cut a o./o", "cut a x", "cut a o./oo ", "cut a  o", "cut o a", "cut a o o", "cut a o/", "cut a o\n",
             "cut a ooooooo", "cut a o/o/o/o/o/o/o", "cut  a o", "cut abcdefghi o", "cut a b", "cut A o", "print", "print ", "print  a",
             "print a ", "print a b", "print A", "print abcdefghi", "print a\n", "\nprint a", "prints a", "stamp a", "a", "o", "o./oo",
             "('print', 'a')", "print\ta", "print-a", "do print a", "rprint a", "print a1"]
    ROWS = ["\n", "print a", "print a\n\n", "\nprint a\n", "print a\nprint b", "print a \n", " print a\n", "print a\n ", "print a\n\nprint b\n",
            "print a print b\n", "press a a\n", "turn a r0\n", "turn a m0\n", "cut a o/oo\n", "print a\nprint\n", "print a\nx\n", " ", "print A\n",
            "print a\n print b\n", "print a;print b\n", "press abcdefghi b\n", "cut a o./oo/\n"]
    STAMPS = ["", "\n", "a o", "a o\n\n", "\na o\n", "a o\nb o", "a  o\n", " a o\n", "a o \n", "a\n", "a \n", " o\n", "o\n", "a o o\n", "b o\na o\n",
              "a o\na o\n", "a o\na .\n", "a o\nb oo\n", "a o\nb o/o\n", "a o./oo\nb oo./oo.\n", "abcdefghi o\n", "A o\n", "a1 o\n", "a x\n",
              "a o/oo\n", "a ooooooo\n", "a o/o/o/o/o/o/o\n", "a o\n b o\n", "a o\n\nb o\n", "a,o\n", "a:o\n", "a o b o\n", "print a\n",
              "".join(f"{name} o\n" for name in "abcdefg"), "a o\nc o\nb o\n", "b o\nab o\n", "a o\nb o\nb o\n"]

    def test_all_else(self):
        for reader, texts in zip(READERS, (self.FACES, self.DEEDS, self.ROWS, self.STAMPS)):
            for text in texts:
                self.assertFalse(PATTERNS[reader](text), text)
                self.assertEqual(refusal(reader, text), NO_TEXT, text)

    def test_what_the_others_write(self):
        told = ["o./oo", "press a b", "cut a o./oo", "print a", "print a\n", "press a b\nturn a r1\n", "a o./oo\n", "o o\nr .\n", ""]
        for text in told:
            for reader in READERS:
                self.assertEqual(refusal(reader, text), None if PATTERNS[reader](text) else NO_TEXT)

    def test_things_that_are_no_texts(self):
        face, row = ("o.", "oo"), [("print", "a")]
        for thing in [*odd_things(), face, row, row[0], Stamps({"a": face}), {"a": face}, b"o./oo", b"print a\n", ["o"], deep(list, "o"),
                      ("print", "a"), 10 ** 5000]:
            if not isinstance(thing, str):
                kept = thing if isinstance(thing, Stamps) else snapshot(thing)
                for reader in READERS:
                    self.assertEqual(refusal(reader, thing), NO_TEXT)
                self.assertTrue(isinstance(thing, Stamps) or same(thing, kept))

    def test_odd_texts(self):
        for thing in odd_things():
            if isinstance(thing, str):
                for reader in READERS:
                    self.assertEqual(refusal(reader, thing), None if PATTERNS[reader](thing) else NO_TEXT)

    def test_spoilt_by_a_sign(self):
        """A sign put in, left out or exchanged: what is read, by a pattern of the test's own, is written so again."""
        chance = random.Random(603)
        signs = "o./ \nabr123mpcutns~A0-"
        found = {(reader, good): 0 for reader in READERS for good in (True, False)}
        for box, faces, row in cases(120, length=3):
            texts = [show_face(drawn(box, {(0, 0)})), *map(show_deed, row[:1]), show_row(row), show_stamps(Stamps(faces))]
            for text in texts:
                for _ in range(30):
                    at, cut = chance.randint(0, len(text)), chance.randint(0, 1)
                    changed = text[:at] + chance.choice(["", *signs]) + text[at + cut:]
                    for reader in READERS:
                        good = PATTERNS[reader](changed)
                        found[reader, good] += 1
                        if good:
                            self.assertEqual(shown_again(reader, reader(changed)), changed)
                        else:
                            self.assertEqual(refusal(reader, changed), NO_TEXT, changed)
        self.assertGreater(min(found.values()), 200)

    def test_lines_exchanged(self):
        for box, faces, _ in cases(60):
            lines = show_stamps(Stamps(faces)).splitlines(keepends=True)
            if len(lines) > 1:
                self.assertEqual(refusal(read_stamps, "".join(reversed(lines))), NO_TEXT)
                self.assertEqual(refusal(read_stamps, "".join([*lines, lines[0]])), NO_TEXT)
                self.assertEqual(refusal(read_stamps, "".join([lines[0], *lines])), NO_TEXT)


class Own(unittest.TestCase):
    """[3]"""

    def test_handed_in_stays(self):
        for box, faces, row in cases(40):
            kept = snapshot(row)
            stamps = Stamps(faces)
            show_row(row), show_stamps(stamps)
            self.assertTrue(same(row, kept))
            self.assertEqual(stamps.faces(), faces)
            text = show_row(row)
            told = read_row(text)
            told.append(None)
            told.reverse()
            self.assertEqual(read_row(text), row)
