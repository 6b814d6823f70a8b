"""[91] to [93], [3], [12] Books."""

import random
import unittest

from faceonface.books import Book
from faceonface.kinds import is_deed
from faceonface.stamps import Stamps
from helper import (BOXES, Plain, deep, drawn, odd_things, over_plain, plain_row, refusal, same, snapshot, some_deed, some_face,
                    some_faces, some_row)

WORDS = ("press", "press", "turn", "cut", "print")
FACES = {"b": ("..", ".."), "a": ("o.", "..")}
PRESS, TURN, CUT, PRINT = ("press", "a", "b"), ("turn", "b", "r1"), ("cut", "a", ("oo", "..")), ("print", "b")


class PlainBook:
    """A book that reckons all anew at each doing, and keeps every row that it had."""

    def __init__(self, faces):
        self.faces, self.rows, self.at = faces, [[]], 0

    def row(self):
        return self.rows[self.at]

    def standings(self, row=None):
        told = [plain_row(self.faces, [])]
        for deed in self.row() if row is None else row:
            told.append(plain_row(told[-1], [deed]))
        return told

    def moved(self, at):
        """Go to another of the rows, and tell where faces are otherwise."""
        ahead = self.standings()
        self.at = at
        return otherwise(ahead, self.standings())

    def done(self, word, *things):
        """What a doing tells."""
        if word == "back":
            return self.moved(self.at - 1)
        if word == "again":
            return self.moved(self.at + 1)
        self.rows = self.rows[:self.at + 1] + [changed(self.row(), word, *things)]
        return self.moved(self.at + 1)


def changed(row, word, *things):
    """The row behind a doing."""
    row = list(row)
    if word == "do":
        row.append(things[0])
    if word == "put":
        row[things[0]] = things[1]
    if word == "slip":
        row.insert(*things)
    if word == "take":
        del row[things[0]]
    return row


def otherwise(ahead, behind):
    return sorted((at, name) for at, (one, other) in enumerate(zip(ahead, behind)) for name in one if one[name] != other[name])


def some_doing(chance, box, names, length, redo=True):
    """A doing that can be done to a book of so many deeds; or back or again."""
    deed = some_deed(chance, box, names, WORDS)
    ways = [("do", deed), ("do", deed), ("slip", chance.randint(0, length), deed)]
    if length:
        ways += [("put", chance.randrange(length), deed)] * 2 + [("take", chance.randrange(length))]
    return chance.choice(ways + [("back",), ("again",), ("back",)] * redo)


def book_cases(seed, many):
    """Tuples (chance, box, faces)."""
    chance = random.Random(seed)
    for at in range(many):
        box = chance.choice(BOXES) if at % 2 else (at // 2 % 4 + 1,) * 2
        yield chance, box, some_faces(chance, box, chance.randint(1, 4))


def filled(faces, row):
    """A book to which a row was told from the beginning."""
    book = Book(Stamps(faces))
    for deed in row:
        book.do(deed)
    return book


def all_of(book):
    """All that a book tells of itself."""
    return (book.row(), book.length(), [list(book.standing(number).faces().items()) for number in range(book.length() + 1)])


def history(book):
    """What comes of taking back all that may be, and of doing again all that may be, on copies."""
    told = []
    for word in ("back", "again"):
        copy = book.copied()
        while refusal(getattr(copy, word)) is None:
            told.append((word, all_of(copy)))
    return told


class Checked(unittest.TestCase):
    def as_plain(self, book, plain):
        standings = plain.standings()
        self.assertEqual(all_of(book), (plain.row(), len(plain.row()), [list(faces.items()) for faces in standings]))

    def refused(self, book, due, word, *things):
        """A doing that is refused, behind which all is as it was."""
        kept, behind = snapshot(things) if not any(isinstance(one, Stamps) for one in things) else None, history(book)
        ahead = all_of(book)
        self.assertEqual(refusal(getattr(book, word), *things), due)
        self.assertEqual((all_of(book), history(book)), (ahead, behind))
        self.assertTrue(kept is None or same(kept, things))


class Doings(Checked):
    """[91]"""

    def test_as_told(self):
        book = Book(Stamps(FACES))
        self.assertEqual((book.row(), book.length()), ([], 0))
        self.assertEqual(book.do(PRESS), [])
        self.assertEqual(book.do(TURN), [])
        self.assertEqual((book.row(), book.length()), ([PRESS, TURN], 2))
        self.assertEqual(book.standing(2).faces(), {"a": ("o.", ".."), "b": ("..", ".o")})
        self.assertEqual(book.put(0, CUT), [(1, "a"), (1, "b"), (2, "a"), (2, "b")])
        self.assertEqual(book.row(), [CUT, TURN])
        self.assertEqual(book.slip(1, PRESS), [(2, "b")])
        self.assertEqual(book.row(), [CUT, PRESS, TURN])
        self.assertEqual(book.take(0), [(1, "a"), (1, "b"), (2, "a"), (2, "b")])
        self.assertEqual(book.row(), [PRESS, TURN])
        self.assertEqual(book.back(), [(1, "a"), (1, "b"), (2, "a"), (2, "b")])
        self.assertEqual(book.row(), [CUT, PRESS, TURN])
        self.assertEqual(book.again(), [(1, "a"), (1, "b"), (2, "a"), (2, "b")])
        self.assertEqual(book.row(), [PRESS, TURN])

    def test_slip_behind_all_and_ahead_of_all(self):
        book = filled(FACES, [PRESS])
        self.assertEqual(book.slip(1, TURN), [])
        self.assertEqual(book.row(), [PRESS, TURN])
        self.assertEqual(book.slip(0, PRINT), [(1, "b"), (2, "b")])
        self.assertEqual(book.row(), [PRINT, PRESS, TURN])
        empty = Book(Stamps(FACES))
        self.assertEqual(empty.slip(0, PRESS), [])
        self.assertEqual(empty.row(), [PRESS])

    def test_all_sorts(self):
        words = {}
        for chance, box, faces in book_cases(701, 60):
            book, plain = Book(Stamps(faces)), PlainBook(faces)
            for _ in range(40):
                doing = some_doing(chance, box, sorted(faces), book.length())
                if doing == ("back",) and plain.at == 0 or doing == ("again",) and plain.at == len(plain.rows) - 1:
                    self.assertEqual(refusal(getattr(book, doing[0])), ("Nothing", {}))
                    continue
                told = getattr(book, doing[0])(*doing[1:])
                self.assertEqual(told, plain.done(*doing))
                self.assertTrue(type(told) is list and all(type(pair) is tuple for pair in told))
                words.setdefault(doing[0], []).append(bool(told))
                self.assertEqual((book.row(), book.length()), (plain.row(), len(plain.row())))
            self.as_plain(book, plain)
        self.assertEqual(set(words), {"do", "put", "slip", "take", "back", "again"})
        self.assertTrue(all(any(told) for word, told in words.items() if word != "do"))
        self.assertFalse(any(words["do"]))

    def test_standings_behind_each_doing(self):
        for chance, box, faces in book_cases(702, 12):
            book, plain = Book(Stamps(faces)), PlainBook(faces)
            for _ in range(15):
                doing = some_doing(chance, box, sorted(faces), book.length(), False)
                getattr(book, doing[0])(*doing[1:])
                plain.done(*doing)
                self.as_plain(book, plain)

    def test_back_and_again_all_the_way(self):
        for chance, box, faces in book_cases(703, 15):
            book, plain = Book(Stamps(faces)), PlainBook(faces)
            for _ in range(20):
                doing = some_doing(chance, box, sorted(faces), book.length(), False)
                getattr(book, doing[0])(*doing[1:])
                plain.done(*doing)
            for word, many in (("back", 20), ("again", 20), ("back", 7), ("again", 3)):
                for _ in range(many):
                    self.assertEqual(getattr(book, word)(), plain.done(word))
                    self.as_plain(book, plain)
                if many == 20:
                    self.refused(book, ("Nothing", {}), word)

    def test_doings_that_change_nothing_are_doings(self):
        book = filled(FACES, [PRESS, TURN])
        self.assertEqual(book.put(1, TURN), [])
        self.assertEqual(book.put(0, PRESS), [])
        self.assertEqual(book.slip(1, PRINT), [(2, "b")])
        self.assertEqual(book.back(), [(2, "b")])
        self.assertEqual((book.back(), book.row()), ([], [PRESS, TURN]))
        self.assertEqual((book.back(), book.row()), ([], [PRESS, TURN]))
        self.assertEqual((book.back(), book.row()), ([], [PRESS]))
        self.assertEqual((book.again(), book.row()), ([], [PRESS, TURN]))
        self.assertEqual((book.again(), book.again(), book.row()), ([], [], [PRESS, TURN]))
        self.assertEqual(book.again(), [(2, "b")])
        self.refused(book, ("Nothing", {}), "again")

    def test_another_doing_leaves_nothing_to_do_again(self):
        for doing in (("do", PRINT), ("put", 0, PRESS), ("slip", 0, PRINT), ("take", 0)):
            book = filled(FACES, [PRESS, TURN, CUT])
            book.back()
            book.back()
            getattr(book, doing[0])(*doing[1:])
            self.refused(book, ("Nothing", {}), "again")
            book.back()
            self.assertEqual(book.row(), [PRESS])
            book.again()
            self.assertEqual(book.row(), changed([PRESS], *doing))

    def test_of_standings_that_there_are_both_ahead_and_behind(self):
        # The last standing is gone with the deed, or new by it, and is not told.
        book = filled(FACES, [PRESS])
        self.assertEqual(book.take(0), [])
        self.assertEqual(book.back(), [])
        self.assertEqual(book.again(), [])
        book = filled(FACES, [PRESS, CUT])
        self.assertEqual(book.take(0), [(1, "a"), (1, "b")])
        self.assertEqual(book.back(), [(1, "a"), (1, "b")])

    def test_two_hundred_deeds(self):
        chance = random.Random(704)
        faces = some_faces(chance, (3, 3), 4)
        row = some_row(chance, (3, 3), faces, 200, WORDS)
        book, plain = filled(faces, row), PlainBook(faces)
        for deed in row:
            plain.done("do", deed)
        self.as_plain(book, plain)
        deed = some_deed(chance, (3, 3), sorted(faces), WORDS)
        for word, *things in (("do", deed), ("slip", 0, deed), ("slip", 100, deed), ("slip", 200, deed)):
            self.refused(book, ("TooMany", {"most": 200}), word, *things)
        for doing in (("put", 0, deed), ("put", 199, deed), ("take", 0), ("slip", 3, deed), ("take", 199), ("do", deed), ("back",), ("again",)):
            self.assertEqual(getattr(book, doing[0])(*doing[1:]), plain.done(*doing))
        self.assertEqual(book.length(), 200)
        self.refused(book, ("TooMany", {"most": 200}), "do", deed)
        self.as_plain(book, plain)


class Refused(Checked):
    """[91], [4]"""

    BAD_NAMES = [(("press", "z", "b"), "z"), (("press", "a", "z"), "z"), (("press", "y", "z"), "y"), (("turn", "z", "r1"), "z"),
                 (("cut", "z", ("o.", "..")), "z"), (("print", "z"), "z"), (("cut", "z", ("o",)), "z")]
    UNFIT = [("cut", "a", ("o",)), ("cut", "b", ("o..", "...")), ("cut", "a", ("o.",))]

    def book(self):
        book = filled(FACES, [PRESS, TURN, CUT])
        book.put(1, PRINT)
        book.back()
        return book

    def test_no_stamps(self):
        for thing in [*odd_things(), FACES, Plain(), Stamps, [Stamps(FACES)], filled(FACES, [])]:
            self.assertEqual(refusal(Book, thing), ("Wrong", {"at": 0}))

    def test_no_deeds(self):
        book = self.book()
        good = [thing for thing in odd_things() if is_deed(thing)]
        self.assertEqual(len(good), 2)
        for thing in odd_things():
            if not is_deed(thing):
                self.assertEqual(refusal(book.do, thing), ("Wrong", {"at": 0}))
                for word in ("put", "slip", "healed"):
                    self.assertEqual(refusal(getattr(book, word), 0, thing), ("Wrong", {"at": 1}))
                    self.assertEqual(refusal(getattr(book, word), 10 ** 18, thing), ("Wrong", {"at": 1}))
        for thing in (list(PRESS), ("press", "a", "a"), ("turn", "a", "r0"), ("turn", "a", "m0"), ("cut", "a", ["oo", ".."]), ("do", PRESS),
                      ("print",), ("print", "A"), (), deep(tuple, PRESS), ("turn", "a", "r1", "r1")):
            self.refused(book, ("Wrong", {"at": 0}), "do", thing)
            self.refused(book, ("Wrong", {"at": 1}), "put", 0, thing)
            self.refused(book, ("Wrong", {"at": 1}), "slip", 9, thing)
            self.refused(book, ("Wrong", {"at": 1}), "healed", 0, thing)

    def test_no_numbers(self):
        book = self.book()
        ahead, behind = all_of(book), history(book)
        for thing in [*odd_things(), -1, -(10 ** 30), True, False, "0", (0,), [0], None, b"0"]:
            if not (type(thing) is int and thing >= 0):
                for word in ("put", "slip", "healed"):
                    for deed in (PRESS, None, ("press", "z", "a")):
                        self.assertEqual(refusal(getattr(book, word), thing, deed), ("Wrong", {"at": 0}))
                for word in ("take", "standing"):
                    self.assertEqual(refusal(getattr(book, word), thing), ("Wrong", {"at": 0}))
        self.assertEqual((all_of(book), history(book)), (ahead, behind))

    def test_no_name_and_unfit(self):
        book = self.book()
        for deed, name in self.BAD_NAMES:
            due = ("NoName", {"name": name})
            self.refused(book, due, "do", deed)
            for word in ("put", "slip", "healed"):
                for at in (0, 2, 3, 4, 10 ** 18):
                    self.refused(book, due, word, at, deed)
        for deed in self.UNFIT:
            self.refused(book, ("Unfit", {}), "do", deed)
            for word in ("put", "slip", "healed"):
                for at in (0, 3, 4, 10 ** 18):
                    self.refused(book, ("Unfit", {}), word, at, deed)
        wide = filled({"a": ("o.",)}, [("turn", "a", "r2")])
        for turning in ("r1", "r3"):
            self.refused(wide, ("Unfit", {}), "do", ("turn", "a", turning))
            self.refused(wide, ("Unfit", {}), "put", 0, ("turn", "a", turning))
            self.refused(wide, ("Unfit", {}), "slip", 5, ("turn", "a", turning))
            self.refused(wide, ("NoName", {"name": "z"}), "slip", 5, ("turn", "z", turning))

    def test_no_beat(self):
        book = self.book()
        for at in (3, 4, 200, 10 ** 18, 10 ** 5000):
            self.refused(book, ("NoBeat", {"at": at}), "put", at, PRESS)
            self.refused(book, ("NoBeat", {"at": at}), "healed", at, PRESS)
            self.refused(book, ("NoBeat", {"at": at}), "take", at)
            if at > 3:
                self.refused(book, ("NoBeat", {"at": at}), "slip", at, PRESS)
                self.refused(book, ("NoBeat", {"at": at}), "standing", at)
        empty = Book(Stamps(FACES))
        for word, *things in (("put", 0, PRESS), ("take", 0), ("healed", 0, PRESS), ("standing", 1), ("slip", 1, PRESS)):
            self.refused(empty, ("NoBeat", {"at": things[0]}), word, *things)

    def test_too_many_behind_all_else(self):
        book = filled(FACES, [PRESS] * 200)
        for deed, name in self.BAD_NAMES[:2]:
            self.assertEqual(refusal(book.do, deed), ("NoName", {"name": name}))
            self.assertEqual(refusal(book.slip, 0, deed), ("NoName", {"name": name}))
            self.assertEqual(refusal(book.slip, 500, deed), ("NoName", {"name": name}))
        self.assertEqual(refusal(book.do, self.UNFIT[0]), ("Unfit", {}))
        self.assertEqual(refusal(book.slip, 500, self.UNFIT[0]), ("Unfit", {}))
        self.assertEqual(refusal(book.slip, 201, PRESS), ("NoBeat", {"at": 201}))
        self.assertEqual(refusal(book.slip, 200, PRESS), ("TooMany", {"most": 200}))
        self.assertEqual(refusal(book.do, PRESS), ("TooMany", {"most": 200}))
        self.assertEqual(refusal(book.do, None), ("Wrong", {"at": 0}))
        self.assertEqual(refusal(book.slip, -1, PRESS), ("Wrong", {"at": 0}))

    def test_nothing(self):
        book = Book(Stamps(FACES))
        self.refused(book, ("Nothing", {}), "back")
        self.refused(book, ("Nothing", {}), "again")
        book.do(PRESS)
        self.refused(book, ("Nothing", {}), "again")
        book.back()
        self.refused(book, ("Nothing", {}), "back")
        self.assertEqual(book.again(), [])
        self.refused(book, ("Nothing", {}), "again")

    def test_refused_doings_leave_what_may_be_done_again(self):
        book = filled(FACES, [PRESS, TURN])
        book.back()
        for word, *things in (("do", ("print", "z")), ("put", 7, PRESS), ("take", 1), ("slip", 2, PRESS), ("do", None), ("put", 0, None)):
            self.assertIsNotNone(refusal(getattr(book, word), *things))
        self.assertEqual((book.again(), book.row()), ([], [PRESS, TURN]))


class Told(Checked):
    """[92]"""

    def test_the_very_stamps(self):
        stamps = Stamps(FACES)
        book = Book(stamps)
        self.assertIs(book.stamps(), stamps)
        book.do(PRESS)
        self.assertIs(book.stamps(), stamps)
        self.assertIs(book.copied().stamps(), stamps)
        self.assertEqual(stamps.faces(), FACES)
        self.assertIs(type(book.standing(0)), Stamps)
        self.assertEqual(book.standing(0).faces(), FACES)

    def healed_plain(self, plain, at, deed):
        """Word by word as [92] says it."""
        ahead, behind = plain.standings(), plain.standings(changed(plain.row(), "put", at, deed))
        for number in range(at + 1, len(ahead)):
            if ahead[number:] == behind[number:]:
                return number
        return None

    def test_healed_as_told(self):
        book = filled(FACES, [PRESS, TURN, ("cut", "b", ("oo", "oo")), PRINT])
        self.assertEqual(book.healed(0, PRINT), 3)
        self.assertEqual(book.healed(0, PRESS), 1)
        self.assertEqual(book.healed(1, ("turn", "b", "r2")), 3)
        self.assertEqual(book.healed(0, ("cut", "a", ("oo", ".."))), None)
        self.assertEqual(book.healed(3, PRESS), None)
        self.assertEqual(book.healed(3, ("print", "a")), 4)
        self.assertEqual(book.healed(2, ("cut", "b", ("oo", "o."))), None)

    def test_healed_against_the_standings(self):
        found = []
        for chance, box, faces in book_cases(711, 120):
            names = sorted(faces)
            row = some_row(chance, box, faces, chance.randint(1, 10), ("press", "turn", "cut", "cut", "print"))
            book, plain = filled(faces, row), PlainBook(faces)
            plain.rows, plain.at = [row], 0
            ahead, behind = all_of(book), history(book)
            for _ in range(6):
                at, deed = chance.randrange(len(row)), some_deed(chance, box, names, WORDS)
                due = self.healed_plain(plain, at, deed)
                self.assertEqual(book.healed(at, deed), due)
                found.append(None if due is None else due - at)
            self.assertEqual((all_of(book), history(book)), (ahead, behind))
        self.assertGreater(found.count(None), 50)
        self.assertGreater(found.count(1), 20)
        self.assertGreater(len([due for due in found if due and due > 2]), 20)

    def test_where_one_is_as_it_is_all_later_ones_are(self):
        for chance, box, faces in book_cases(712, 40):
            row = some_row(chance, box, faces, 8, WORDS)
            at, deed = chance.randrange(8), some_deed(chance, box, sorted(faces), WORDS)
            healed = filled(faces, row).healed(at, deed)
            other = filled(faces, changed(row, "put", at, deed))
            book = filled(faces, row)
            like = [book.standing(number).faces() == other.standing(number).faces() for number in range(9)]
            self.assertEqual(like[at + 1:], sorted(like[at + 1:]))
            self.assertEqual(healed, like.index(True, at + 1) if like[-1] else None)

    def test_a_copy_goes_on_by_itself(self):
        for chance, box, faces in book_cases(713, 25):
            names = sorted(faces)
            book = Book(Stamps(faces))
            for _ in range(12):
                doing = some_doing(chance, box, names, book.length())
                refusal(getattr(book, doing[0]), *doing[1:])
            copy = book.copied()
            self.assertIs(type(copy), Book)
            self.assertIsNot(copy, book)
            self.assertEqual((all_of(copy), history(copy)), (all_of(book), history(book)))
            for one, other in ((book, copy), (copy, book)):
                kept, behind = all_of(other), history(other)
                for _ in range(10):
                    doing = some_doing(chance, box, names, one.length())
                    refusal(getattr(one, doing[0]), *doing[1:])
                self.assertEqual((all_of(other), history(other)), (kept, behind))

    def test_a_copy_has_what_may_be_taken_back_and_done_again(self):
        book = filled(FACES, [PRESS, TURN, CUT])
        book.back()
        copy = book.copied()
        copy.again()
        self.assertEqual((copy.row(), book.row()), ([PRESS, TURN, CUT], [PRESS, TURN]))
        again = book.copied()
        for due in ([PRESS], []):
            again.back()
            self.assertEqual(again.row(), due)
        book.do(PRINT)
        self.refused(book, ("Nothing", {}), "again")
        self.assertEqual((again.again(), again.again(), again.again(), again.row()), ([], [], [], [PRESS, TURN, CUT]))


class Tried(Checked):
    """[93]"""

    def test_as_told(self):
        book = filled(FACES, [PRESS])
        self.assertEqual(book.tried([("do", TURN)]), {"a": ("o.", ".."), "b": ("..", ".o")})
        self.assertEqual(book.tried([("put", 0, CUT), ("do", PRESS), ("take", 0)]), {"a": ("o.", ".."), "b": (".o", "..")})
        self.assertEqual(book.tried([("take", 0)]), FACES)
        self.assertEqual(book.tried([("slip", 1, PRESS), ("slip", 0, CUT)]), {"a": ("oo", ".."), "b": ("..", "..")})
        self.assertEqual(book.row(), [PRESS])
        self.refused(book, ("Stopped", {"at": 0}), "tried", [("put", 1, PRESS)])
        self.refused(book, ("Stopped", {"at": 2}), "tried", [("take", 0), ("do", PRESS), ("take", 1), ("take", 7)])

    def test_all_sorts(self):
        found = []
        for chance, box, faces in book_cases(721, 200):
            names = sorted(faces)
            book = filled(faces, some_row(chance, box, faces, chance.randint(0, 6), WORDS))
            for _ in range(chance.randint(0, 3)):
                refusal(book.back)
            row, doings, due = book.row(), [], None
            for at in range(chance.randint(1, 8)):
                doing = some_doing(chance, box, names, len(row) + chance.choice([0, 0, 0, 1]), False)
                doings.append(doing)
                if due is None and len(doing) > 1 and type(doing[1]) is int:
                    due = at if doing[1] > len(row) - (doing[0] != "slip") else None
                row = changed(row, *doing) if due is None else row
            kept, ahead, behind = snapshot(doings), all_of(book), history(book)
            if due is None:
                told = book.tried(doings)
                self.assertEqual(list(told.items()), list(plain_row(faces, row).items()))
            else:
                self.assertEqual(refusal(book.tried, doings), ("Stopped", {"at": due}))
            found.append(due is None)
            self.assertTrue(same(kept, doings))
            self.assertEqual((all_of(book), history(book)), (ahead, behind))
        self.assertGreater(min(found.count(True), found.count(False)), 15)

    def test_stopped(self):
        book = filled(FACES, [PRESS, TURN])
        book.back()
        good = [("do", PRINT), ("put", 0, CUT), ("slip", 0, PRESS), ("take", 1)]
        for bad in (("do", ("print", "z")), ("do", ("cut", "a", ("o",))), ("put", 9, PRESS), ("slip", 9, PRESS), ("take", 9),
                    ("put", 0, ("press", "a", "z")), ("slip", 0, ("cut", "a", ("o",))), ("put", 10 ** 30, PRESS)):
            for at in range(len(good) + 1):
                self.refused(book, ("Stopped", {"at": at}), "tried", good[:at] + [bad] + good[at:] + [bad])

    def test_too_many_deeds(self):
        book = filled(FACES, [PRESS] * 199)
        self.assertEqual(refusal(book.tried, [("do", PRESS), ("do", PRESS)]), ("Stopped", {"at": 1}))
        self.assertEqual(refusal(book.tried, [("do", PRESS), ("slip", 0, PRESS)]), ("Stopped", {"at": 1}))
        self.assertEqual(book.tried([("do", PRESS), ("take", 0), ("do", PRESS)]), FACES)
        self.assertEqual(book.length(), 199)

    def test_no_list_of_such_tuples(self):
        book = filled(FACES, [PRESS, TURN])
        book.back()
        ahead, behind = all_of(book), history(book)
        good = ("do", PRESS)
        for thing in odd_things():
            for doings in (thing, [thing], [good, thing], [("do", thing)], [("put", 0, thing)], [("slip", thing, PRESS)],
                           [(thing, PRESS)], [(thing, 0, PRESS)], (thing,), [("take", thing)]):
                if doings in ([("do", ("press", "a", "b"))], [("do", ("print", "a"))], [("put", 0, ("press", "a", "b"))],
                              [("put", 0, ("print", "a"))]):
                    continue
                if isinstance(doings, list) and doings and isinstance(doings[-1], tuple) and len(doings[-1]) > 1:
                    if doings[-1][0] in ("slip", "take") and type(doings[-1][1]) is int and doings[-1][1] >= 0:
                        continue
                self.assertEqual(refusal(book.tried, doings), ("Wrong", {"at": 0}))
        for doings in ([], [good] * 9, (good,), {0: good}, [good, ["do", PRESS]], [("do", list(PRESS))], [("do", PRESS, PRESS)], [("do",)],
                       [("put", 0)], [("put", PRESS, 0)], [("put", -1, PRESS)], [("slip", True, PRESS)], [("take", -1)], [("take", False)],
                       [("take", 0, PRESS)], [("back",)], [("again",)], [("Do", PRESS)], [("healed", 0, PRESS)], [good, None], [()],
                       [("take",)], [("slip", "0", PRESS)], [("put", 0, ("press", "a", "a"))], [good] * 300, [[good]], good,
                       [("take", 9), ("do", None)], [("take", 9), ("put", -1, PRESS)], [("take", 9), ("slip", True, PRESS)],
                       [("take", 9), ("take", -1)], [("take", 9), ("put", 0, None)], [("take", 9), ("back",)], [(b"do", PRESS)], deep(list, good), [deep(tuple, good)]):
            self.assertEqual(refusal(book.tried, doings), ("Wrong", {"at": 0}))
        self.assertEqual((all_of(book), history(book)), (ahead, behind))
        self.assertEqual(book.tried([good] * 8), book.standing(1).faces())

    def test_as_if_it_were_done(self):
        for chance, box, faces in book_cases(722, 40):
            book = filled(faces, some_row(chance, box, faces, 5, WORDS))
            doings = [("do", some_deed(chance, box, sorted(faces), WORDS)), ("take", 2), ("put", 1, ("print", sorted(faces)[0]))]
            told = book.tried(doings)
            for doing in doings:
                getattr(book, doing[0])(*doing[1:])
            self.assertEqual(told, book.standing(5).faces())


class Past(Checked):
    """[12]"""

    def test_what_comes_of_the_change_is_laid_over(self):
        found = 0
        for chance, box, faces in book_cases(731, 80):
            names = sorted(faces)
            row = some_row(chance, box, faces, chance.randint(1, 12), ("press", "turn"))
            book = filled(faces, row)
            at = chance.randrange(len(row))
            ahead = [book.standing(number).faces() for number in range(len(row) + 1)]
            told = book.put(at, some_deed(chance, box, names, ("press", "turn")))
            behind = [book.standing(number).faces() for number in range(len(row) + 1)]
            over = [{name: over_plain(box, [one[name], other[name]]) for name in names} for one, other in zip(ahead, behind)]
            self.assertTrue(all(faces == {name: drawn(box, set()) for name in names} for faces in over[:at + 1]))
            # What was otherwise at its number goes on by the deeds behind, and nothing else comes to it.
            for number in range(at + 1, len(row) + 1):
                self.assertEqual(plain_row(over[at + 1], row[at + 1:number]), over[number])
            self.assertEqual(told, otherwise(ahead, behind))
            found += bool(told)
        self.assertGreater(found, 40)

    def test_told_from_the_beginning(self):
        for chance, box, faces in book_cases(732, 40):
            book = Book(Stamps(faces))
            for _ in range(25):
                doing = some_doing(chance, box, sorted(faces), book.length())
                refusal(getattr(book, doing[0]), *doing[1:])
            self.assertEqual(all_of(filled(faces, book.row())), all_of(book))
            for at in range(book.length()):
                deed = some_deed(chance, box, sorted(faces), WORDS)
                self.assertEqual(filled(faces, book.row()).healed(at, deed), book.healed(at, deed))


class Own(Checked):
    """[3]"""

    def test_told_is_the_askers_own(self):
        book = filled(FACES, [PRESS, TURN, PRESS])
        due = all_of(book)
        row = book.row()
        row.append(None)
        row[0] = None
        book.row().clear()
        book.standing(1).faces().clear()
        tried = book.tried([("do", PRINT)])
        tried["a"] = None
        self.assertEqual(all_of(book), due)
        told = book.put(0, CUT)
        kept = list(told)
        told.append(None)
        told.reverse()
        self.assertEqual(book.back(), kept)
        self.assertEqual(book.again(), kept)
        self.assertEqual(list(book.tried([("do", PRINT)])), ["a", "b"])
        self.assertEqual(list(book.standing(2).faces()), ["a", "b"])

    def test_handed_in_is_not_held(self):
        faces = dict(FACES)
        book = Book(Stamps(faces))
        faces["a"] = ("oo", "oo")
        doings = [("do", PRESS), ("put", 0, CUT)]
        book.tried(doings)
        doings.clear()
        self.assertEqual(book.standing(0).faces(), FACES)

    def test_asking_changes_nothing(self):
        chance = random.Random(741)
        faces = some_faces(chance, (2, 2), 3)
        book = filled(faces, some_row(chance, (2, 2), faces, 10, WORDS))
        book.back()
        due, behind = all_of(book), history(book)
        for _ in range(3):
            book.row(), book.length(), book.standing(3), book.stamps(), book.copied()
            book.healed(2, ("print", sorted(faces)[0])), book.tried([("take", 0)])
            self.assertEqual((all_of(book), history(book)), (due, behind))

    def test_each_box(self):
        chance = random.Random(742)
        for box in BOXES:
            faces = {name: some_face(chance, box) for name in ("z", "a")}
            row = some_row(chance, box, faces, 6, WORDS)
            plain = PlainBook(faces)
            plain.rows = [row]
            self.as_plain(filled(faces, row), plain)
