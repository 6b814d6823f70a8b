"""[30] to [33] Lots, held against sets of cells that are turned and laid over one another."""

import itertools
import random
import unittest

from faceonface.errors import NoNumber, Unlike, Wrong
from faceonface.kinds import is_box, is_face
from faceonface.lots import Lot, alike, joined, met
from helper import (BOXES, Plain, Span, all_faces, box_turnings, changes_plain, deep, drawn, even_plain,
                    lot_cases, members_plain, odd_things, orbits, over_plain, same, snapshot, some_face, some_member,
                    sparse_face, turned_plain, up_cells)

FEW = [box for box in BOXES if box[0] * box[1] <= 6]
SQUARE_FREE = ((".o..", "....", "....", "...."),)


def blank(box):
    return drawn(box, set())


def first_up(face):
    return min((y, x) for x, y in up_cells(face))


def plain_rows_of(box, faces):
    """The plain rows of all that comes of faces of few cells, picked out of the sorted members as [30] says."""
    members = members_plain(box, faces)
    firsts = sorted({first_up(member) for member in members if up_cells(member)})
    rows = []
    for y, x in firsts:
        rows += [member for member in members if up_cells(member) and first_up(member) == (y, x)
                 and not any((other[1], other[0]) in up_cells(member) for other in firsts if other != (y, x))]
    return rows


def small_cases(seed):
    """Lots of boxes of few cells, of which all members can be gone over."""
    return lot_cases(seed, FEW, 8) + lot_cases(seed + 1, [(3, 3), (3, 2)], 3)


class PlainRows(unittest.TestCase):
    """[30] Lot, rows, doublings, has."""

    def test_as_told(self):
        lot = Lot((2, 2), [("o.", "..")])
        self.assertEqual(lot.rows(), [("o.", ".."), (".o", ".."), ("..", "o."), ("..", ".o")])
        self.assertEqual(Lot((2, 2), [("oo", "..")]).rows(), [("o.", ".o"), (".o", ".o"), ("..", "oo")])
        self.assertEqual(Lot((3, 1), [("oo.",)]).rows(), [("o.o",), (".oo",)])
        self.assertEqual(Lot((3, 1), []).rows(), [])
        self.assertEqual((Lot((3, 1), []).box(), Lot((3, 1), []).doublings()), ((3, 1), 0))

    def test_each_row_has_a_first_cell_of_its_own(self):
        for box, faces in lot_cases(51):
            rows = Lot(box, faces).rows()
            firsts = [first_up(row) for row in rows]
            self.assertEqual(firsts, sorted(set(firsts)))
            for row, (y, x) in zip(rows, firsts):
                self.assertEqual([other for other in rows if (x, y) in up_cells(other)], [row])

    def test_rows_make_the_lot(self):
        for box, faces in lot_cases(52):
            lot = Lot(box, faces)
            span = Span(orbits(box, faces))
            rows = lot.rows()
            self.assertIs(type(rows), list)
            self.assertTrue(all(span.has(up_cells(row)) for row in rows))
            self.assertEqual(len(rows), span.doublings())
            self.assertEqual(lot.doublings(), span.doublings())
            self.assertEqual(lot.box(), box)

    def test_the_same_list_of_whatever_faces(self):
        chance = random.Random(53)
        for box, faces in lot_cases(54, most=20):
            rows = Lot(box, faces).rows()
            mixed = [turned_plain(face, chance.choice(box_turnings(box))) for face in faces]
            mixed += [some_member(chance, box, faces) for _ in range(5)]
            chance.shuffle(mixed)
            self.assertEqual(Lot(box, mixed).rows(), rows)
            self.assertEqual(Lot(box, rows[::-1]).rows(), rows)
            self.assertEqual(Lot(box, faces[::-1]).rows(), rows)

    def test_has_just_the_members(self):
        chance = random.Random(55)
        answers = []
        for box, faces in lot_cases(56):
            lot = Lot(box, faces)
            span = Span(orbits(box, faces))
            for _ in range(4):
                self.assertIs(lot.has(some_member(chance, box, faces)), True)
                other = chance.choice([some_face, sparse_face])(chance, box)
                self.assertIs(lot.has(other), span.has(up_cells(other)))
                answers.append(lot.has(other))
        self.assertGreater(answers.count(True), 100)
        self.assertGreater(answers.count(False), 100)

    def test_all_faces_of_few_cells(self):
        for box, faces in small_cases(57):
            lot = Lot(box, faces)
            members = members_plain(box, faces)
            self.assertEqual([face for face in all_faces(box) if lot.has(face)], members)
            self.assertEqual(2 ** lot.doublings(), len(members))

    def test_faces_of_other_boxes_are_no_members(self):
        lot = Lot((2, 1), [("o.",)])
        for face in (("o", "o"), ("o",), ("...",), (".", "."), ("..", "..")):
            self.assertIs(lot.has(face), False)
            self.assertIsNone(lot.number_of(face))


class Numbers(unittest.TestCase):
    """[30] member, number_of."""

    def test_in_the_order_of_cells(self):
        for box, faces in small_cases(61):
            lot = Lot(box, faces)
            members = members_plain(box, faces)
            self.assertEqual([lot.member(number) for number in range(len(members))], members)
            self.assertEqual([lot.number_of(face) for face in members], list(range(len(members))))
            for face in all_faces(box):
                if face not in members:
                    self.assertIsNone(lot.number_of(face))

    def test_great_lots(self):
        chance = random.Random(62)
        for box, faces in lot_cases(63):
            lot = Lot(box, faces)
            last = 2 ** lot.doublings() - 1
            numbers = sorted({0, last, *[chance.randint(0, last) for _ in range(6)]})
            told = [lot.member(number) for number in numbers]
            self.assertEqual(told, sorted(set(told)))
            self.assertEqual([lot.number_of(face) for face in told], numbers)
            self.assertEqual(told[0], blank(box))
            span = Span(orbits(box, faces))
            self.assertTrue(all(span.has(up_cells(face)) for face in told))
            firsts = {(x, y) for y, x in map(first_up, lot.rows())}
            self.assertLessEqual(firsts, up_cells(told[-1]))

    def test_the_blank_face_is_the_first(self):
        for box in BOXES:
            for lot in (Lot(box, []), Lot(box, [blank(box)]), Lot(box, [drawn(box, {(0, 0)})])):
                self.assertEqual(lot.number_of(blank(box)), 0)
                self.assertIs(type(lot.number_of(blank(box))), int)
                self.assertEqual(lot.member(0), blank(box))

    def test_no_number(self):
        for box, faces in lot_cases(64, [(1, 1), (2, 2), (3, 1), (4, 4), (6, 5)]):
            lot = Lot(box, faces)
            rows = lot.rows()
            many = 2 ** len(rows)
            for number in (-1, -many, many, many + 1, 2 * many, 10 ** 18, -(10 ** 18), 10 ** 5000, -(10 ** 5000)):
                if number >= many or number < 0:
                    with self.assertRaises(NoNumber) as held:
                        lot.member(number)
                    self.assertIs(held.exception.number, number)
            self.assertEqual(lot.rows(), rows)
            lot.member(many - 1)


class Core(unittest.TestCase):
    """[31] core, layers."""

    def test_of_few_cells_all_members_laid_over_themselves_turned(self):
        for box, faces in small_cases(71):
            laid_over = [over_plain(box, [member, turned_plain(member, turning)])
                         for member in members_plain(box, faces) for turning in box_turnings(box)]
            self.assertEqual(Lot(box, faces).core().rows(), plain_rows_of(box, laid_over))

    def test_of_all_boxes(self):
        chance = random.Random(72)
        for box, faces in lot_cases(73):
            core = Lot(box, faces).core()
            self.assertIsInstance(core, Lot)
            self.assertEqual(core.box(), box)
            span = Span(changes_plain(box, faces))
            self.assertEqual(core.doublings(), span.doublings())
            self.assertTrue(all(span.has(up_cells(row)) for row in core.rows()))
            for _ in range(3):
                member = some_member(chance, box, faces)
                turning = chance.choice(box_turnings(box))
                self.assertTrue(core.has(over_plain(box, [member, turned_plain(member, turning)])))

    def test_layers(self):
        many = {True: set(), False: set()}
        for box, faces in lot_cases(74) + [((4, 4), list(SQUARE_FREE)), ((6, 6), [drawn((6, 6), {(1, 0)})])]:
            lot = Lot(box, faces)
            layers = lot.layers()
            self.assertIs(type(layers), list)
            self.assertEqual(layers[0].rows(), lot.rows())
            self.assertEqual(layers[-1].rows(), [])
            for one, other in zip(layers, layers[1:]):
                self.assertEqual(one.core().rows(), other.rows())
                self.assertLess(other.doublings(), one.doublings())
                self.assertTrue(all(one.has(row) for row in other.rows()))
            many[box[0] == box[1]].add(len(layers))
        self.assertEqual(max(many[True]), 6)
        self.assertEqual(max(many[False]), 4)

    def test_of_the_blank_face_alone_one_layer(self):
        for box in BOXES:
            for lot in (Lot(box, []), Lot(box, [blank(box)])):
                self.assertEqual([layer.rows() for layer in lot.layers()], [[]])
                self.assertEqual(lot.core().rows(), [])


class Still(unittest.TestCase):
    """[32] still."""

    def test_of_few_cells(self):
        for box, faces in small_cases(81):
            members = members_plain(box, faces)
            still = [member for member in members
                     if all(turned_plain(member, turning) == member for turning in box_turnings(box))]
            told = Lot(box, faces).still()
            self.assertEqual([told.member(number) for number in range(2 ** told.doublings())], still)

    def test_of_all_boxes(self):
        for box, faces in lot_cases(82):
            lot = Lot(box, faces)
            still = lot.still()
            self.assertIsInstance(still, Lot)
            for row in still.rows():
                self.assertTrue(lot.has(row))
                self.assertEqual({turned_plain(row, turning) for turning in box_turnings(box)}, {row})
            # Of the members, as many doublings are lost as the changes of all of them together double.
            shifted = [{(at, cell) for at, turning in enumerate(box_turnings(box))
                        for cell in up_cells(row) ^ up_cells(turned_plain(row, turning))} for row in lot.rows()]
            self.assertEqual(still.doublings(), lot.doublings() - Span(shifted).doublings())
            self.assertEqual(still.doublings() > 0, lot.doublings() > 0)


class Against(unittest.TestCase):
    """[32] against."""

    def test_of_few_cells(self):
        for box, faces in small_cases(83):
            members = members_plain(box, faces)
            combs = [comb for comb in all_faces(box) if all(even_plain(comb, member) for member in members)]
            told = Lot(box, faces).against()
            self.assertEqual([told.member(number) for number in range(2 ** told.doublings())], combs)

    def test_of_all_boxes(self):
        for box, faces in lot_cases(84):
            lot = Lot(box, faces)
            combs = lot.against()
            self.assertIsInstance(combs, Lot)
            for comb in combs.rows():
                self.assertTrue(all(even_plain(comb, drawn(box, cells)) for cells in orbits(box, faces)))
            self.assertEqual(combs.doublings(), box[0] * box[1] - lot.doublings())
            self.assertEqual(combs.against().rows(), lot.rows())


class Two(unittest.TestCase):
    """[32] met, joined, alike."""

    def pairs(self):
        chance = random.Random(85)
        for box, faces in lot_cases(86, most=8):
            others = [some_member(chance, box, faces), sparse_face(chance, box)]
            yield box, faces, others[:chance.randint(0, 2)]

    def test_met_and_joined(self):
        for box, faces, others in self.pairs():
            one, other = Lot(box, faces), Lot(box, others)
            both, least = met(one, other), joined(one, other)
            for row in both.rows():
                self.assertTrue(one.has(row) and other.has(row))
            span = Span(orbits(box, faces + others))
            self.assertEqual(least.doublings(), span.doublings())
            self.assertTrue(all(span.has(up_cells(row)) for row in least.rows()))
            self.assertEqual(both.doublings() + least.doublings(), one.doublings() + other.doublings())
            self.assertEqual(met(other, one).rows(), both.rows())
            self.assertEqual(joined(other, one).rows(), least.rows())
            self.assertEqual((both.box(), least.box()), (box, box))

    def test_met_of_few_cells(self):
        for (box, faces), (other_box, others) in itertools.product(small_cases(87)[::3], repeat=2):
            if box == other_box:
                members = members_plain(box, others)
                both = [member for member in members_plain(box, faces) if member in members]
                told = met(Lot(box, faces), Lot(box, others))
                self.assertEqual([told.member(number) for number in range(2 ** told.doublings())], both)

    def test_combs_against_them(self):
        for box, faces, others in self.pairs():
            one, other = Lot(box, faces), Lot(box, others)
            self.assertEqual(met(one, other).against().rows(), joined(one.against(), other.against()).rows())
            self.assertEqual(joined(one, other).against().rows(), met(one.against(), other.against()).rows())

    def test_great_lots_joined(self):
        chance = random.Random(88)
        faces = [some_face(chance, (6, 6)) for _ in range(60)]
        whole = Lot((6, 6), faces)
        self.assertEqual(whole.doublings(), 36)
        self.assertTrue(alike(joined(whole, whole), whole))
        self.assertTrue(alike(met(whole, whole), whole))

    def test_alike(self):
        for box, faces, others in self.pairs():
            one, other = Lot(box, faces), Lot(box, faces + others)
            self.assertIs(alike(one, Lot(box, one.rows()[::-1])), True)
            span = Span(orbits(box, faces))
            self.assertIs(alike(one, other), all(span.has(up_cells(face)) for face in others))
            self.assertIs(alike(other, one), alike(one, other))

    def test_unlike_boxes(self):
        for one, other in itertools.permutations([(2, 3), (3, 2), (1, 6), (6, 6), (1, 1)], 2):
            for faces in ([], [drawn(one, {(0, 0)})]):
                for asked in (met, joined, alike):
                    with self.assertRaises(Unlike):
                        asked(Lot(one, faces), Lot(other, []))


class Makers(unittest.TestCase):
    """[33] makers, comb."""

    def test_makers(self):
        for box, faces in lot_cases(91):
            lot = Lot(box, faces)
            makers = lot.makers()
            self.assertIs(type(makers), list)
            span = Span(orbits(box, makers))
            self.assertEqual(span.doublings(), lot.doublings())
            self.assertTrue(all(lot.has(face) for face in makers))
            self.assertEqual(len(makers), lot.doublings() - Span(changes_plain(box, faces)).doublings())

    def test_no_fewer_make_it(self):
        for box, faces in small_cases(92):
            lot = Lot(box, faces)
            members = members_plain(box, faces)
            fewer = len(lot.makers()) - 1
            if 0 <= fewer <= 2 and len(members) <= 32:
                for some in itertools.combinations(members, fewer):
                    self.assertLess(Span(orbits(box, some)).doublings(), lot.doublings())

    def test_comb(self):
        chance = random.Random(93)
        for box, faces in lot_cases(94):
            lot = Lot(box, faces)
            span = Span(orbits(box, faces))
            for face in (some_face(chance, box), sparse_face(chance, box), some_member(chance, box, faces)):
                comb = lot.comb(face)
                if span.has(up_cells(face)):
                    self.assertIsNone(comb)
                else:
                    self.assertFalse(even_plain(comb, face))
                    self.assertTrue(all(even_plain(comb, drawn(box, cells)) for cells in orbits(box, faces)))
                    self.assertEqual((len(comb), len(comb[0]), type(comb)), (box[1], box[0], tuple))

    def test_comb_of_few_cells(self):
        for box, faces in small_cases(95):
            lot = Lot(box, faces)
            members = members_plain(box, faces)
            for face in all_faces(box):
                comb = lot.comb(face)
                self.assertEqual(comb is None, face in members)
                if comb is not None:
                    self.assertFalse(even_plain(comb, face))
                    self.assertTrue(all(even_plain(comb, member) for member in members))


class Refused(unittest.TestCase):
    """[4] Lot refused."""

    def wrong(self, at, box, faces):
        kept = snapshot((box, faces))
        with self.assertRaises(ValueError) as held:
            Lot(box, faces)
        self.assertIs(type(held.exception), Wrong)
        self.assertEqual(held.exception.at, at)
        self.assertTrue(same(kept, (box, faces)))

    def test_no_box(self):
        things = [thing for thing in odd_things() if not is_box(thing)]
        for thing in things + [(0, 1), (1, 7), (True, True), (1, True), [1, 1], (1, 1, 1), ("1", "1"), (2, None)]:
            self.wrong(0, thing, [])
            self.wrong(0, thing, [("o",)])

    def test_no_list_of_faces_of_the_box(self):
        for thing in odd_things():
            if thing != []:
                self.wrong(1, (6, 6), thing)
                self.wrong(1, (2, 3), thing)
            if thing != ("o",):
                self.wrong(1, (1, 1), [thing])
                self.wrong(1, (1, 1), [("o",), thing])
                self.wrong(1, (1, 1), [thing, ("o",)])
        for thing in ((("o",),), (), {}, {("o",): 1}, None, "o", Plain(), deep(list), [deep(tuple)], [["o"]], [("oo", "o")]):
            self.wrong(1, (1, 1), thing)

    def test_faces_of_another_box(self):
        for one, other in itertools.permutations([(1, 1), (2, 3), (3, 2), (1, 6), (6, 1), (6, 6), (2, 2)], 2):
            self.wrong(1, one, [blank(other)])
            self.wrong(1, one, [blank(one), blank(other)])

    def test_more_than_sixty(self):
        self.assertEqual(Lot((2, 2), [("o.", "..")] * 60).doublings(), 4)
        self.wrong(1, (2, 2), [("o.", "..")] * 61)
        self.wrong(1, (2, 2), [("o.", "..")] * 300)
        self.wrong(1, (2, 2), [("..", "..")] * 61)

    def test_the_first_of_two(self):
        for thing in odd_things():
            if not is_box(thing) and not is_face(thing):
                self.wrong(0, thing, thing)
                self.wrong(0, thing, [thing])
        self.wrong(0, [2, 2], None)
        self.wrong(0, None, [("o",)] * 61)


class Own(unittest.TestCase):
    """[3] What is handed in and told."""

    def told(self, lot):
        """All that a lot tells, of which the asker may change each list."""
        return [lot.rows(), lot.layers(), lot.makers(), lot.core().rows(), lot.still().rows(), lot.against().rows(),
                [layer.rows() for layer in lot.layers()]]

    def test_handed_in_stays_and_is_not_held(self):
        for box, faces in lot_cases(96, [(1, 1), (2, 3), (4, 4), (6, 6)]):
            kept = list(faces)
            lot = Lot(box, faces)
            rows = lot.rows()
            self.told(lot)
            self.assertEqual(faces, kept)
            faces.append(drawn(box, {(0, 0)}))
            faces.insert(0, None)
            self.assertEqual(lot.rows(), rows)
            self.assertEqual(lot.doublings(), len(rows))

    def test_told_is_the_askers_own(self):
        for box, faces in lot_cases(97, [(1, 1), (2, 3), (4, 4)]):
            lot = Lot(box, faces)
            kept = [lot.rows(), lot.makers(), [layer.rows() for layer in lot.layers()]]
            for told in self.told(lot):
                told.append(None)
                told.reverse()
                told.clear()
            self.assertEqual([lot.rows(), lot.makers(), [layer.rows() for layer in lot.layers()]], kept)
            self.assertEqual(Lot(box, faces).rows(), kept[0])

    def test_asking_changes_nothing(self):
        for box, faces in lot_cases(98, [(3, 3), (5, 2)]):
            lot, other = Lot(box, faces), Lot(box, [drawn(box, {(0, 0)})])
            kept = (lot.rows(), other.rows())
            met(lot, other), joined(lot, other), alike(lot, other)
            lot.comb(blank(box)), lot.number_of(blank(box)), lot.has(blank(box)), lot.member(0)
            self.assertEqual((lot.rows(), other.rows()), kept)
