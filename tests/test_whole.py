"""[1], [5] to [12] The whole, by tests that go through several modules."""

import itertools
import random
import unittest

from faceonface.books import Book
from faceonface.counts import some_many, standings_many
from faceonface.far import far, round_of
from faceonface.faces import is_even, laid, turned
from faceonface.lots import Lot, alike, joined
from faceonface.parted import apart, is_alike, sheet_ahead, unseen
from faceonface.prices import fewest, is_fair, prices, standings
from faceonface.rows import done_row, led_back, prints
from faceonface.stamps import Stamps
from faceonface.stories import agree, agree_many, agreeing, is_clash, sure
from faceonface.tables import behind, made, many_times, table_of, undone_table
from faceonface.texts import read_row, read_stamps, show_row, show_stamps
from faceonface.turnings import turnings_of
from faceonface.webs import Web
from faceonface.wishes import answer, is_answer
from helper import (BOXES, Span, answer_plain, box_of_faces, cases, differing, drawn, moves_plain, plain_row, prints_plain, refusal,
                    some_face, some_faces, some_pair, some_row, spread, story_of, web_cases, wish_cases)

FEW = [(1, 1), (2, 1), (1, 2), (3, 1), (1, 3)]
MOVES = ("press", "turn")
WITHOUT_CUTS = ("press", "turn", "print")


def full_web(faces):
    """A web of all presses and turns, for stamps of these faces."""
    box, names = box_of_faces(faces), sorted(faces)
    turnings = [turning for turning in ("r1", "r2", "r3") if turning in turnings_of(box)]
    return Web(box, names, presses=list(itertools.permutations(names, 2)), turns=list(itertools.product(names, turnings)), panes={})


def told_of(faces, wish):
    """What answer tells, None where it is refused with TooFew."""
    if answer_plain(faces, wish)[0] == "few":
        return None
    return answer(Stamps(faces), wish)


def web_row(chance, web, many):
    """A row of a web's own deeds, by chance."""
    deeds = moves_plain(web) + [("print", name) for name in web["panes"]]
    return [chance.choice(deeds) for _ in range(many)] if deeds else []


class Wishes(unittest.TestCase):
    """[5], [6] Rows, wishes, lots, counts and prices."""

    def test_a_row_or_combs_never_both_always_one(self):
        found = {"row": 0, "comb": 0, "combs": 0}
        for faces, wish in wish_cases(801, 150, None, 3):
            stamps, told = Stamps(faces), told_of(faces, wish)
            if told is None:
                continue
            lot = Lot(stamps.box(), list(faces.values()))
            gap = lot.doublings() - lot.core().doublings()
            reach = joined(lot.core(), Lot(stamps.box(), list(wish.values())))
            inside = all(lot.has(face) for face in wish.values())
            short = lot.doublings() - reach.doublings() if inside else None
            enough = inside and len(faces) - len(wish) >= short
            if len(faces) > gap:
                self.assertEqual(told[0] == "row", enough)
            self.assertTrue(is_answer(stamps, wish, told))
            if told[0] == "row":
                self.assertLessEqual(len(told[1]), 60 * (lot.doublings() + 1) * len(faces))
                behind_row = done_row(stamps, told[1])
                self.assertTrue(all(behind_row.face(name) == wish[name] for name in wish))
                self.assertTrue(all(deed[0] in MOVES for deed in told[1]))
            found[told[0]] += 1
        self.assertGreater(min(found.values()), 5)

    def test_against_all_standings(self):
        """What answer and fewest tell of a wish, and what standings there are at all."""
        found = set()
        for faces, wish in wish_cases(802, 200, FEW, 3):
            stamps, web = Stamps(faces), full_web(faces)
            if answer_plain(faces, wish)[0] == "few" or standings_many(stamps) > 600:
                continue
            reached = standings(web, stamps)
            told = answer(stamps, wish)
            comes = any(all(one[name] == face for name, face in wish.items()) for one in reached)
            self.assertEqual(told[0] == "row", comes)
            self.assertEqual(fewest(web, stamps, wish)[0], "row" if comes else "never")
            if comes:
                self.assertLessEqual(len(fewest(web, stamps, wish, press=1, turn=1)[1]), len(told[1]))
            found.add(told[0])
        self.assertEqual(found, {"row", "comb", "combs"})

    def test_just_so_many_standings_as_are_counted(self):
        sizes = set()
        for faces, wish in wish_cases(803, 150, FEW, 3):
            stamps = Stamps(faces)
            if refusal(standings_many, stamps) or standings_many(stamps) > 600:
                continue
            reached = standings(full_web(faces), stamps)
            self.assertEqual(len(reached), standings_many(stamps))
            some = sorted(wish)
            self.assertEqual(len({tuple(one[name] for name in some) for one in reached}), some_many(stamps, some))
            sizes.add(len(reached))
        self.assertGreater(len(sizes), 5)

    def test_the_lot_stays_and_another_row_leads_back(self):
        for box, faces, row in cases(120, MOVES):
            stamps = Stamps(faces)
            there = done_row(stamps, row)
            self.assertTrue(alike(Lot(box, list(faces.values())), Lot(box, list(there.faces().values()))))
            self.assertEqual(done_row(there, led_back(stamps, row)).faces(), faces)
            table = undone_table(box, table_of(box, sorted(faces), row))
            self.assertEqual(made(table, there).faces(), faces)
            if refusal(standings_many, stamps) is None:
                self.assertEqual(standings_many(there), standings_many(stamps))

    def test_wishes_for_what_rows_lead_to(self):
        chance = random.Random(804)
        for box, faces, row in cases(80, MOVES, 3):
            stamps = Stamps(faces)
            there = done_row(stamps, row).faces()
            wish = {name: there[name] for name in chance.sample(sorted(faces), chance.randint(1, len(faces)))}
            told = told_of(faces, wish)
            if told is not None:
                self.assertEqual(told[0], "row")
                self.assertTrue(is_answer(stamps, wish, ("row", row)))


class AgainAndAgain(unittest.TestCase):
    """[7], [8], [9] Tables, far and rounds."""

    def test_rounds_within_their_bounds(self):
        for box, faces, row in cases(120, WITHOUT_CUTS, length=24):
            stamps, many = Stamps(faces), len(faces)
            lead, length = round_of(stamps, row)
            self.assertEqual(lead, 0)
            self.assertLessEqual(length, (8 if box[0] == box[1] else 4) * (2 ** many - 1))
            self.assertEqual(far(stamps, row, length).faces(), faces)
            table = many_times(box, table_of(box, sorted(faces), row), length)
            self.assertEqual(made(table, stamps).faces(), faces)

    def test_rounds_with_cuts(self):
        for box, faces, row in cases(150, ("press", "turn", "press", "turn", "cut"), length=24):
            stamps, many = Stamps(faces), len(faces)
            lead, length = round_of(stamps, row)
            square = box[0] == box[1]
            if any(deed[0] == "cut" for deed in row):
                self.assertLessEqual(lead, (5 if square else 3) * many)
                self.assertLessEqual(length, 1 if many == 1 else (8 if square else 4) * (2 ** (many - 1) - 1))
            self.assertEqual(far(stamps, row, lead + length).faces(), far(stamps, row, lead).faces())
            self.assertEqual(done_row(far(stamps, row, 5), row).faces(), far(stamps, row, 6).faces())

    def test_far_by_tables(self):
        chance = random.Random(811)
        for box, faces, row in cases(60, WITHOUT_CUTS, length=24):
            number = chance.choice([0, 1, 10 ** 18, chance.randrange(10 ** 18)])
            table = table_of(box, sorted(faces), row)
            stamps = Stamps(faces)
            self.assertEqual(made(many_times(box, table, number), stamps).faces(), far(stamps, row, number).faces())
            self.assertEqual(made(behind(box, table, table), stamps).faces(), done_row(stamps, row + row).faces())

    def test_laid_over_one_another(self):
        chance = random.Random(812)
        for box, one, row in cases(80, WITHOUT_CUTS):
            other = {name: some_face(chance, box) for name in one}
            over = {name: laid(box, [one[name], other[name]]) for name in one}
            number = chance.choice([1, 7, 10 ** 17])
            for asked in (lambda faces: done_row(Stamps(faces), row).faces(), lambda faces: far(Stamps(faces), row, number).faces()):
                told = [asked(faces) for faces in (one, other, over)]
                self.assertEqual(told[2], {name: laid(box, [told[0][name], told[1][name]]) for name in told[0]})

    def test_turned_by_two_quarters_and_names_exchanged(self):
        chance = random.Random(813)
        for box, faces, row in cases(80):
            number = chance.randrange(50)
            stamps = Stamps({name: turned(face, "r2") for name, face in faces.items()})
            cut = [(*deed[:2], turned(deed[2], "r2")) if deed[0] == "cut" else deed for deed in row]
            plain = far(Stamps(faces), row, number).faces()
            self.assertEqual(far(stamps, cut, number).faces(), {name: turned(face, "r2") for name, face in plain.items()})
            self.assertEqual(round_of(stamps, cut), round_of(Stamps(faces), row))
            new = dict(zip(faces, chance.sample(sorted(faces), len(faces))))
            called = [(deed[0], *(new[part] if deed[0] == "press" or at == 0 else part for at, part in enumerate(deed[1:]))) for deed in row]
            told = far(Stamps({new[name]: face for name, face in faces.items()}), called, number).faces()
            self.assertEqual(told, {new[name]: face for name, face in plain.items()})

    def test_either_order(self):
        chance = random.Random(814)
        found = 0
        for box, faces, _ in cases(100, least=2):
            names = sorted(faces)
            one, other = some_row(chance, box, names, 2, ("press", "press", "turn", "print"))
            alike_ends = one[0] == other[0] == "press" and (one[1] == other[1] or one[2] == other[2])
            apart_stamps = not set(one[1:3 if one[0] == "press" else 2]) & set(other[1:3 if other[0] == "press" else 2])
            if alike_ends or apart_stamps:
                found += 1
                self.assertEqual(table_of(box, names, [one, other]), table_of(box, names, [other, one]))
                for number in (1, 3, 10 ** 18):
                    told = [far(Stamps(faces), row, number).faces() for row in ([one, other], [other, one])]
                    self.assertEqual(*told)
        self.assertGreater(found, 20)


class Seen(unittest.TestCase):
    """[10], [11] Prints, sheets and stories."""

    def test_alike_ones_tell_the_same_stories(self):
        chance = random.Random(821)
        for box, names, web in web_cases(822, 80, BOXES, 30):
            made_web = Web(box, names, **web)
            one = {name: some_face(chance, box) for name in names}
            never = [sheet for sheet in unseen(made_web) if chance.randint(0, 1)]
            other = {name: laid(box, [one[name], *(sheet[name] for sheet in never)]) for name in names}
            told = apart(made_web, Stamps(one), Stamps(other))
            self.assertEqual(told[0], "alike")
            self.assertTrue(is_alike(made_web, Stamps(one), Stamps(other), told[1]))
            row = web_row(chance, web, 30)
            shown = prints(Stamps(one), row, web["panes"])
            self.assertEqual(shown, prints(Stamps(other), row, web["panes"]))
            # So the other is among the beginnings that agree with the story of the one.
            _, beginning, sheets = agree(box, names, web["panes"], story_of(row, shown))
            self.assertTrue(Span(map(spread, sheets)).has(differing(beginning, other)))
            self.assertTrue(all(Span(map(spread, sheets)).has(spread(sheet)) for sheet in unseen(made_web)))

    def test_a_row_that_tells_apart_is_a_story_that_the_other_clashes_with(self):
        chance = random.Random(823)
        found = 0
        for box, names, web in web_cases(824, 80, BOXES, 30):
            one, other = some_pair(chance, box, names)
            told = apart(Web(box, names, **web), Stamps(one), Stamps(other))
            if told[0] == "row":
                found += 1
                panes = web["panes"]
                story = story_of(told[1], prints(Stamps(one), told[1], panes))
                _, beginning, sheets = agree(box, names, panes, story)
                self.assertTrue(Span(map(spread, sheets)).has(differing(beginning, one)))
                self.assertFalse(Span(map(spread, sheets)).has(differing(beginning, other)))
                # The prints of both in one story, the beginning brought back between them: no beginning shows both.
                back = led_back(Stamps(one), told[1])
                twice = story + [(deed, None) for deed in back] + story_of(told[1], prints(Stamps(other), told[1], panes))
                clash = agree(box, names, panes, twice)
                self.assertEqual((clash[0], agree_many(box, names, panes, twice)), ("clash", 0))
                self.assertTrue(is_clash(box, names, panes, twice, clash[1]))
        self.assertGreater(found, 20)

    def test_sheets_deed_by_deed(self):
        """[11] A sheet led ahead deed by deed is even on two just where it is even on what comes of them."""
        chance = random.Random(825)
        for box, names, web in web_cases(826, 60, BOXES, 30):
            one, other = some_pair(chance, box, names)
            row = web_row(chance, web, 12)
            sheet = {name: some_face(chance, box) for name in names}
            ahead = sheet
            for deed in reversed(row):
                ahead = sheet_ahead(ahead, deed)
            ends = [done_row(Stamps(faces), row).faces() for faces in (one, other)]
            odd = [sum(not is_even(comb[name], laid(box, [first[name], second[name]])) for name in names) % 2
                   for comb, first, second in ((ahead, one, other), (sheet, *ends))]
            self.assertEqual(odd[0], odd[1])

    def test_each_beginning_that_is_told_agrees_and_is_sure_of_what_is_sure(self):
        chance = random.Random(827)
        for box, faces, row in cases(80):
            if len(faces) * box[0] * box[1] > 80:
                continue
            names = list(faces)
            panes = {name: some_face(chance, box) for name in names if chance.randint(0, 2)}
            story = story_of(row, prints(Stamps(faces), row, panes))
            many = agree_many(box, names, panes, story)
            for number in {0, many - 1, chance.randrange(many)}:
                beginning = agreeing(box, names, panes, story, number)
                self.assertEqual(prints(Stamps(beginning), row, panes), prints_plain(faces, row, panes))
                for name, (x, y), truth in sure(box, names, panes, story):
                    self.assertEqual(beginning[name][y][x] == "o", truth)

    def test_all_papers(self):
        """[11] Each paper that is told is one by what looks through it, and none of other stamps that it must not hold for."""
        faces, wish = {"a": ("o.",), "b": ("..",), "c": ("..",)}, {"b": ("oo",)}
        comb = answer(Stamps({**faces, "a": ("oo",)}), {"b": ("o.",)})
        self.assertTrue(is_answer(Stamps({**faces, "a": ("oo",)}), {"b": ("o.",)}, comb))
        self.assertFalse(is_answer(Stamps(faces), {"b": ("o.",)}, comb))
        web = Web((2, 1), ["a", "b", "c"], presses=[("a", "b")], turns=[], panes={"b": ("o.",)})
        never = fewest(web, Stamps(faces), wish)
        self.assertEqual(never, ("never", prices(web, Stamps(faces), wish)))
        self.assertTrue(is_fair(web, Stamps(faces), wish, never[1]))
        self.assertFalse(is_fair(web, Stamps({**faces, "a": ("oo",)}), wish, never[1]))
        both = [Stamps(faces), Stamps({**faces, "c": ("oo",)})]
        paper = apart(web, *both)
        self.assertTrue(is_alike(web, *both, paper[1]))
        self.assertFalse(is_alike(web, both[0], Stamps({**faces, "a": ("..",)}), paper[1]))


class Written(unittest.TestCase):
    """[12] Texts and books."""

    def test_a_book_written_and_told_from_the_beginning(self):
        chance = random.Random(831)
        for box, faces, row in cases(60, length=20):
            book = Book(Stamps(faces))
            for deed in row:
                book.do(deed)
            for _ in range(6):
                deed = some_row(chance, box, faces, 1, ("turn", "cut", "print"))[0]
                at = chance.randint(0, book.length())
                refusal(chance.choice([book.slip, book.put]), at, deed)
                refusal(book.take, chance.randint(0, 25))
                refusal(chance.choice([book.back, book.again]))
            stamps, deeds = read_stamps(show_stamps(book.stamps())), read_row(show_row(book.row()))
            other = Book(stamps)
            for deed in deeds:
                self.assertEqual(other.do(deed), [])
            self.assertEqual(other.row(), book.row())
            for number in range(book.length() + 1):
                text = show_stamps(done_row(stamps, deeds[:number]))
                self.assertEqual((show_stamps(book.standing(number)), show_stamps(other.standing(number))), (text, text))
            self.assertEqual(book.standing(book.length()).faces(), plain_row(faces, deeds))

    def test_a_put_changes_what_is_behind_by_what_comes_of_the_change(self):
        chance = random.Random(832)
        for box, faces, row in cases(80, MOVES, length=15):
            if not row:
                continue
            book = Book(Stamps(faces))
            for deed in row:
                book.do(deed)
            at = chance.randrange(len(row))
            ahead = [book.standing(number).faces() for number in range(len(row) + 1)]
            deed = some_row(chance, box, faces, 1, MOVES)[0]
            healed = book.healed(at, deed)
            told = book.put(at, deed)
            now = book.standing(at + 1).faces()
            change = Stamps({name: laid(box, [now[name], ahead[at + 1][name]]) for name in faces})
            for number in range(at + 1, len(row) + 1):
                comes = made(table_of(box, sorted(faces), row[at + 1:number]), change).faces()
                due = {name: laid(box, [ahead[number][name], comes[name]]) for name in sorted(faces)}
                self.assertEqual(book.standing(number).faces(), due)
                unlike = [name for name in sorted(faces) if due[name] != ahead[number][name]]
                self.assertEqual([name for place, name in told if place == number], unlike)
            # Without cuts a change is never healed, but one that changes nothing.
            self.assertEqual(healed, at + 1 if not told else None)
            book.back()
            self.assertEqual([book.standing(number).faces() for number in range(len(row) + 1)], ahead)

    def test_the_row_of_an_answer_in_a_book(self):
        found = 0
        for faces, wish in wish_cases(833, 60, [(2, 2), (3, 1), (2, 1)], 3):
            told = told_of(faces, wish)
            if told and told[0] == "row" and 0 < len(told[1]) <= 200:
                found += 1
                book = Book(Stamps(faces))
                for deed in read_row(show_row(told[1])):
                    book.do(deed)
                last = book.standing(book.length()).faces()
                self.assertTrue(all(last[name] == wish[name] for name in wish))
                name, blank = sorted(faces)[0], drawn(box_of_faces(faces), set())
                self.assertEqual(book.tried([("do", ("cut", name, blank))]), {**last, name: blank})
        self.assertGreater(found, 10)


class Opening(unittest.TestCase):
    """[1] Stamps pressed, turned, cut and printed, from the faces to all that is told of them."""

    def test_from_one_end_to_the_other(self):
        stamps = read_stamps("a o./..\nb ../..\nc ../..\n")
        row = read_row("press a b\nturn b r1\ncut c oo/..\nprint b\n")
        panes = {"b": ("oo", "oo")}
        self.assertEqual(show_stamps(done_row(stamps, row)), "a o./..\nb ../.o\nc oo/..\n")
        self.assertEqual(prints(stamps, row, panes), [("..", "o.")])
        wish = {"b": ("oo", "oo"), "c": ("..", "..")}
        told = answer(stamps, wish)
        self.assertEqual(told[0], "row")
        self.assertTrue(is_answer(stamps, wish, told))
        self.assertEqual(standings_many(stamps), 2 ** (3 * 3) * (2 ** 3 - 1))
        moves = [("press", "a", "b"), ("turn", "a", "r1")]
        self.assertEqual(round_of(stamps, moves)[0], 0)
        self.assertEqual(far(stamps, moves, 10 ** 18).faces(), far(stamps, moves, 10 ** 18 % round_of(stamps, moves)[1]).faces())
        web = Web((2, 2), ["a", "b", "c"], presses=[("a", "b")], turns=[("a", "r1")], panes=panes)
        self.assertEqual(fewest(web, stamps, {"b": ("..", ".o")}), ("row", [("turn", "a", "r1")] * 3 + [("press", "a", "b")]))
        self.assertEqual(apart(web, stamps, Stamps({**stamps.faces(), "c": ("oo", "oo")}))[0], "alike")
        story = [(("press", "a", "b"), None), (("print", "b"), ("o.", ".."))]
        self.assertEqual(agree_many((2, 2), ["a", "b", "c"], panes, story), 2 ** (12 - 4))


class Kept(unittest.TestCase):
    """[3] One set of Stamps, asked by all modules, stays as it is, and tells the same again."""

    def test_asked_by_all(self):
        chance = random.Random(841)
        for box in [(1, 1), (2, 1), (2, 2), (3, 2)]:
            faces = some_faces(chance, box, 3)
            names = sorted(faces)
            stamps, web = Stamps(faces), full_web(faces)
            row = some_row(chance, box, names, 6, MOVES)
            wish = {names[0]: faces[names[1]]}

            def asked():
                told = [refusal(answer, stamps, wish) or answer(stamps, wish), refusal(standings_many, stamps), far(stamps, row, 9).faces(),
                        made(table_of(box, names, row), stamps).faces(), apart(web, stamps, done_row(stamps, row)),
                        refusal(fewest, web, stamps, wish) or fewest(web, stamps, wish), show_stamps(stamps), led_back(stamps, row)]
                book = Book(stamps)
                book.do(row[0])
                return [*told, book.row(), book.standing(1).faces()]

            first = asked()
            self.assertEqual(asked(), first)
            self.assertEqual(stamps.faces(), faces)
