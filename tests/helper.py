"""What several test files use: odd things, boxes, and plain cell by cell reckonings to hold the program against.

Nothing here imports the program, so that no fault of it can hide in what it is held against.
"""

import copy
import itertools
import random

TURNINGS = ["m0", "m1", "m2", "m3", "r0", "r1", "r2", "r3"]
BOXES = [(wide, high) for wide in range(1, 7) for high in range(1, 7)]


def deep(kind, inmost=1):
    """A thing of 20 tuples, lists or dicts within one another."""
    thing = inmost
    for _ in range(20):
        thing = {tuple: (thing,), list: [thing], dict: {"a": thing}}[kind]
    return thing


class Plain:
    """An object of no kind that the document knows."""


def odd_things():
    """Things of any kind but numbers with a point; new ones at each call."""
    return [
        0, 1, 6, 7, -1, 10 ** 18, 10 ** 5000, -(10 ** 5000), True, False, None,
        "", "a", "abcdefgh", "abcdefghi", "A", "a1", "a b", "a\n", "\n", "~", "r0", "m3", "r4", "o", ".", "press",
        "x" * 900, (), [], {}, ("o",), ["o"], (("o",),), ("o", None), (None,), (1,), (1, 2), [1, 2], (1, 2, 3),
        (True, 1), ("press", "a", "b"), ["press", "a", "b"], ("print", "a"), ("print", ["a"]), ("print", {}),
        ({}, {}), ([], []), ((), ()), {"a": 1}, {"a": ("o",)}, {1: ("o",)}, {None: None}, {("a",): ("o",)},
        b"", b"o", (b"o",), set(), {1, 2}, frozenset(), Plain(), Plain, len,
        deep(tuple), deep(list), deep(dict), deep(tuple, "o"), (deep(tuple),), (deep(list), deep(dict)),
        ("print", deep(tuple)), ("cut", "a", deep(tuple)), ("turn", "a", deep(list)), (deep(dict), "a"),
        tuple(range(900)), list(range(900)), {k: k for k in range(900)}, ("o",) * 900, ["o"] * 900, "o" * 900,
        ("press",) + ("a",) * 900, ("cut", "a", ("o",) * 900), ("turn", "a", tuple(range(900))),
    ]


def snapshot(thing):
    """A copy of a thing, to be compared with it later."""
    return copy.deepcopy(thing)


def same(one, other):
    """Whether two things are of one class and alike throughout: True is not 1 here."""
    if isinstance(one, Plain):
        return isinstance(other, Plain)
    if type(one) is not type(other):
        return False
    if isinstance(one, (list, tuple)):
        return len(one) == len(other) and all(same(a, b) for a, b in zip(one, other))
    if isinstance(one, dict):
        return same(list(one), list(other)) and same(list(one.values()), list(other.values()))
    return one == other


def refusal(asked, *things, **named):
    """The name of the refusal that a call is refused with, and its fields; None where something is told."""
    try:
        asked(*things, **named)
    except ValueError as error:
        return (type(error).__name__, vars(error))
    return None


def cells_of(box):
    """All cells of a box, in their order."""
    return [(x, y) for y in range(box[1]) for x in range(box[0])]


def up_cells(face):
    """The set of a face's up cells."""
    return {(x, y) for y, text in enumerate(face) for x, sign in enumerate(text) if sign == "o"}


def drawn(box, cells):
    """The face of a box that has just these cells up."""
    return tuple("".join("o" if (x, y) in cells else "." for x in range(box[0])) for y in range(box[1]))


def all_faces(box):
    """Every face of a box of few cells, sorted."""
    cells = cells_of(box)
    return sorted(drawn(box, set(some)) for many in range(len(cells) + 1) for some in itertools.combinations(cells, many))


def all_standings(box, names):
    """Every dict of the names with faces of a box of few cells."""
    return [dict(zip(names, faces)) for faces in itertools.product(all_faces(box), repeat=len(names))]


def moved(box, cell, turning):
    """The box and the cell to which a turning brings a cell of a box, word by word as [13] says it."""
    wide, high = box
    x, y = cell
    if turning[0] == "m":
        x = wide - 1 - x
    for _ in range("0123".index(turning[1])):
        x, y = high - 1 - y, x
        wide, high = high, wide
    return (wide, high), (x, y)


def turned_cells(box, cells, turning):
    """The set of cells to which a turning brings some cells of a box."""
    return {moved(box, cell, turning)[1] for cell in cells}


def turned_plain(face, turning):
    """A face turned, cell by cell."""
    box = (len(face[0]), len(face))
    return drawn(moved(box, (0, 0), turning)[0], turned_cells(box, up_cells(face), turning))


def some_face(chance, box):
    """A face of a box by a random.Random of a fixed seed."""
    return tuple("".join(chance.choice("o.") for _ in range(box[0])) for _ in range(box[1]))


def some_faces(chance, box, many):
    """A dict of so many names with faces of a box, the names in no order."""
    names = chance.sample(["a", "b", "cc", "deed", "echo", "z", "longname"], many)
    return {name: some_face(chance, box) for name in names}


def some_deed(chance, box, names, words):
    """A deed that can be done to stamps of this box and these names, of one of the words."""
    word = chance.choice([word for word in words if word != "press" or len(names) > 1])
    if word == "press":
        return ("press", *chance.sample(names, 2))
    name = chance.choice(names)
    if word == "turn":
        return ("turn", name, chance.choice(["r1", "r2", "r3"] if box[0] == box[1] else ["r2"]))
    if word == "cut":
        return ("cut", name, some_face(chance, box))
    return ("print", name)


def some_row(chance, box, names, many, words=("press", "turn", "cut", "print")):
    """A row of so many deeds that can be done."""
    names = sorted(names)
    if len(names) == 1:
        words = [word for word in words if word != "press"]
    return [some_deed(chance, box, names, words) for _ in range(many)]


def plain_deed(box, standing, deed):
    """The sets of up cells, by names, behind a deed, word by word as [21] says it."""
    behind = {name: set(cells) for name, cells in standing.items()}
    if deed[0] == "press":
        for x, y in standing[deed[1]]:
            behind[deed[2]] ^= {(box[0] - 1 - x, y)}
    elif deed[0] == "turn":
        behind[deed[1]] = turned_cells(box, standing[deed[1]], deed[2])
    elif deed[0] == "cut":
        behind[deed[1]] = up_cells(deed[2])
    return behind


def plain_row(faces, row):
    """The faces, by names, behind a row of deeds that can all be done, cell by cell."""
    first = next(iter(faces.values()))
    box = (len(first[0]), len(first))
    standing = {name: up_cells(face) for name, face in faces.items()}
    for deed in row:
        standing = plain_deed(box, standing, deed)
    return {name: drawn(box, standing[name]) for name in sorted(standing)}


def shown_plain(face, pane):
    """What a print shows, by sets of cells."""
    return drawn((len(face[0]), len(face)), up_cells(turned_plain(face, "m0")) & up_cells(pane))


def prints_plain(faces, row, panes):
    """What the prints of a row show, cell by cell."""
    box = box_of_faces(faces)
    told = []
    for deed in row:
        if deed[0] == "print":
            told.append(shown_plain(faces[deed[1]], panes.get(deed[1], drawn(box, set()))))
        faces = plain_row(faces, [deed])
    return told


def story_of(row, shown):
    """The story of a row of deeds and of what its prints show."""
    shown = iter(shown)
    return [(deed, next(shown) if deed[0] == "print" else None) for deed in row]


def cases(many, words=("press", "turn", "cut", "print"), least=1, length=12):
    """Many tuples (box, faces, row) of all sorts, the same ones at each run."""
    chance = random.Random(2026)
    told = []
    for at in range(many):
        box = chance.choice(BOXES) if at % 2 else (at // 2 % 6 + 1,) * 2
        faces = some_faces(chance, box, chance.randint(least, 6))
        told.append((box, faces, some_row(chance, box, faces, chance.randint(0, length), words)))
    return told


def box_turnings(box):
    """The turnings of a box, as [14] says."""
    return TURNINGS if box[0] == box[1] else ["m0", "m2", "r0", "r2"]


def orbit(box, face):
    """The sets of up cells of a face turned in all ways."""
    return [turned_cells(box, up_cells(face), turning) for turning in box_turnings(box)]


def orbits(box, faces):
    """The sets of up cells of some faces turned in all ways."""
    return [cells for face in faces for cells in orbit(box, face)]


class Span:
    """All that comes of sets of cells by laying over one another, by a plain elimination of first cells."""

    def __init__(self, sets):
        self.by_first = {}
        for cells in sets:
            rest = self.rest(cells)
            if rest:
                self.by_first[min(rest)] = rest

    def rest(self, cells):
        rest = frozenset(cells)
        while rest & self.by_first.keys():
            rest ^= self.by_first[min(rest & self.by_first.keys())]
        return rest

    def has(self, cells):
        return not self.rest(cells)

    def doublings(self):
        return len(self.by_first)


def changes_plain(box, faces):
    """The sets of cells of faces laid over themselves turned, for faces and all their turnings."""
    return [cells ^ other for cells in orbits(box, faces) for other in orbit(box, drawn(box, cells))]


def members_plain(box, faces):
    """All members of the lot of some faces, sorted, by turning in all ways and laying over one another."""
    members = {frozenset()}
    for cells in orbits(box, sorted(set(faces))):
        if frozenset(cells) not in members:
            members |= {member ^ cells for member in members}
    return sorted(drawn(box, member) for member in members)


def over_plain(box, faces):
    """Faces laid over one another, cell by cell."""
    cells = set()
    for face in faces:
        cells ^= up_cells(face)
    return drawn(box, cells)


def even_plain(comb, face):
    """Whether a comb is even on a face, by sets of cells."""
    return len(up_cells(comb) & up_cells(face)) % 2 == 0


def some_member(chance, box, faces):
    """A face of the lot of some faces."""
    return over_plain(box, [drawn(box, cells) for cells in orbits(box, faces) if chance.randint(0, 1)])


def sparse_face(chance, box, most=3):
    """A face of a box with few up cells, perhaps none."""
    return drawn(box, chance.sample(cells_of(box), min(len(cells_of(box)), chance.randint(0, most))))


def lot_cases(seed, boxes=None, most=60):
    """Tuples (box, faces) of lots of none, one and several faces, dense and sparse, some alike or blank."""
    chance = random.Random(seed)
    told = []
    for box in boxes or BOXES:
        told.append((box, []))
        told.append((box, [drawn(box, set())]))
        told.append((box, [some_face(chance, box)]))
        told.append((box, [sparse_face(chance, box)]))
        told.append((box, [drawn(box, set(cells_of(box)))]))
        few = [sparse_face(chance, box, 2) for _ in range(chance.randint(2, 3))]
        told.append((box, [*few, drawn(box, set()), few[0]]))
        told.append((box, [over_plain(box, [drawn(box, cells) for cells in orbit(box, some_face(chance, box))])]))
        one = some_face(chance, box)
        told.append((box, [some_member(chance, box, [one]) for _ in range(chance.randint(2, most))]))
    if not boxes:
        told.append(((6, 6), [some_face(chance, (6, 6)) for _ in range(most)]))
        told.append(((6, 5), [sparse_face(chance, (6, 5)) for _ in range(most)]))
    return told


def box_of_faces(faces):
    """The box of a dict of names with faces."""
    first = next(iter(faces.values()))
    return (len(first[0]), len(first))


def doublings_plain(faces):
    """How often the lot of all faces of a dict doubles, and how often its core does."""
    box = box_of_faces(faces)
    return (Span(orbits(box, faces.values())).doublings(), Span(changes_plain(box, faces.values())).doublings())


def least_plain(faces):
    """How many stamps are needed at least for a row, as [41] says."""
    whole, core = doublings_plain(faces)
    return max(3, whole - core + 1)


def answer_plain(faces, wish):
    """What answers a wish, as [41] says: ("comb", name), ("combs", many), ("few", many, least) or ("row", most)."""
    box = box_of_faces(faces)
    lot = Span(orbits(box, faces.values()))
    for name in sorted(wish):
        if not lot.has(up_cells(wish[name])):
            return ("comb", name)
    core = changes_plain(box, faces.values())
    least_lot = Span(core + [up_cells(face) for face in wish.values()])
    if lot.doublings() - least_lot.doublings() > len(faces) - len(wish):
        return ("combs", lot.doublings() - least_lot.doublings())
    if len(faces) < least_plain(faces):
        return ("few", len(faces), least_plain(faces))
    return ("row", 60 * len(faces) * (lot.doublings() + 1))


def comb_holds(faces, wish, name, comb):
    """Whether a comb is even on all turnings of all faces and odd on the wished one of this name, by counting."""
    box = box_of_faces(faces)
    even = all(even_plain(comb, drawn(box, cells)) for cells in orbits(box, faces.values()))
    return even and not even_plain(comb, wish[name])


def combs_hold(faces, wish, combs):
    """Whether combs are as [41] says, by counting each of them and all that come of laying some over one another."""
    box = box_of_faces(faces)
    for comb in combs:
        for face in faces.values():
            if len({even_plain(comb, drawn(box, cells)) for cells in orbit(box, face)}) != 1:
                return False
        if not all(even_plain(comb, face) for face in wish.values()):
            return False
    for some in range(1, 2 ** len(combs)):
        over = over_plain(box, [comb for at, comb in enumerate(combs) if some >> at & 1])
        if all(even_plain(over, face) for face in faces.values()):
            return False
    return True


def wished_face(chance, box, faces, own):
    """A face to be wished for: a member of the lot, the own one, a blank one, one of the core, or any one."""
    values = list(faces.values())
    member = some_member(chance, box, values)
    turned_one = turned_plain(member, chance.choice(box_turnings(box)))
    return chance.choice([member, member, turned_one, own, drawn(box, set()), over_plain(box, [member, turned_one]),
                          chance.choice(values), sparse_face(chance, box)])


def wish_cases(seed, many, boxes=None, least=1):
    """Tuples (faces, wish) of all sorts: of one to six stamps, for one, some and all of them."""
    chance = random.Random(seed)
    told = []
    for at in range(many):
        box = chance.choice(boxes or BOXES)
        stamps = chance.randint(least, 6)
        make = chance.choice([some_face, sparse_face])
        base = [make(chance, box) for _ in range(chance.randint(0, stamps))]
        faces = {name: some_member(chance, box, base) for name in some_faces(chance, box, stamps)}
        if at % 10 == 0:
            faces = {name: make(chance, box) for name in faces}
        wished = chance.sample(sorted(faces), stamps if at % 3 == 0 else chance.randint(1, stamps))
        wish = {name: wished_face(chance, box, faces, faces[name]) for name in wished}
        if at % 12 == 1:
            wish = {name: faces[name] for name in wished}
        if at % 4 == 2:
            wish = {name: some_member(chance, box, faces.values()) for name in wished}
        told.append((faces, wish))
    return told


def reached(faces):
    """All standings, as tuples of faces in the order of names, that presses and turns lead to."""
    names = sorted(faces)
    turns = ["r1"] if len(faces[names[0]]) == len(faces[names[0]][0]) else ["r2"]
    deeds = [("press", *pair) for pair in itertools.permutations(names, 2)]
    deeds += [("turn", name, turning) for name in names for turning in turns]
    first = tuple(faces[name] for name in names)
    known, fresh = {first}, [first]
    while fresh:
        standing = fresh.pop()
        for deed in deeds:
            behind = tuple(plain_row(dict(zip(names, standing)), [deed]).values())
            if behind not in known:
                known.add(behind)
                fresh.append(behind)
    return known


def pairs_of_turnings():
    """What the one turning, then the other is, of each two: the one that brings all cells where these two bring them."""
    def ends(*turnings):
        cells = []
        for cell in cells_of((3, 3)):
            for turning in turnings:
                cell = moved((3, 3), cell, turning)[1]
            cells.append(cell)
        return cells
    found = {tuple(ends(turning)): turning for turning in TURNINGS}
    return {(one, other): found[tuple(ends(one, other))] for one in TURNINGS for other in TURNINGS}


BOTH = pairs_of_turnings()


def tidy(sets):
    """A table, as [50] tells it, of dicts of sets of turnings."""
    return {name: {other: tuple(sorted(sets[name][other])) for other in sorted(sets[name]) if sets[name][other]}
            for name in sorted(sets)}


def table_plain(names, row):
    """The table of a row without cuts, word by word as [50] says it."""
    sets = {name: {other: {"r0"} if other == name else set() for other in names} for name in names}
    for deed in row:
        if deed[0] == "turn":
            sets[deed[1]] = {other: {BOTH[one, deed[2]] for one in sets[deed[1]][other]} for other in names}
        if deed[0] == "press":
            for other in names:
                sets[deed[2]][other] = sets[deed[2]][other] ^ {BOTH[one, "m0"] for one in sets[deed[1]][other]}
    return tidy(sets)


def behind_plain(one, other):
    """The table of one and another one behind it, turning by turning."""
    sets = {name: {source: set() for source in one} for name in one}
    for name in other:
        for middle, laters in other[name].items():
            for source, firsts in one[middle].items():
                for first in firsts:
                    for later in laters:
                        sets[name][source] ^= {BOTH[first, later]}
    return tidy(sets)


def made_plain(table, faces):
    """What a table makes of stamps, cell by cell."""
    box = box_of_faces(faces)
    return {name: over_plain(box, [turned_plain(faces[source], turning) for source in table[name]
                                   for turning in table[name][source]]) for name in sorted(table)}


def some_table(chance, box, names):
    """Any table of a box and names, perhaps one that no table leads back from; the names in any order."""
    thin = chance.choice([1, 2, 4])
    table = {}
    for name in chance.sample(names, len(names)):
        table[name] = {}
        for other in chance.sample(names, len(names)):
            turnings = [turning for turning in box_turnings(box) if not chance.randint(0, thin)]
            if turnings:
                table[name][other] = tuple(turnings)
    return table


def is_led_back(table):
    """Whether a table of truths, whether an odd number of turnings stands for two names, can be led back."""
    rows = [{other for other in table[name] if len(table[name][other]) % 2} for name in table]
    return Span(rows).doublings() == len(table)


def some_web(chance, box, names):
    """The presses, turns and panes of a web, by their names: some told twice, in any order, perhaps none."""
    thin = chance.choice([0, 1, 1, 2, 4])
    pairs = [pair for pair in itertools.permutations(names, 2) if not chance.randint(0, thin)]
    turnings = ["r1", "r2", "r3"] if box[0] == box[1] else ["r2"]
    turns = [pair for pair in itertools.product(names, turnings) if not chance.randint(0, thin)]
    make = chance.choice([some_face, sparse_face, sparse_face])
    panes = {name: make(chance, box) for name in names if chance.randint(0, 2)}
    twice = {"presses": pairs + pairs[:3], "turns": turns + turns[:2]}
    return {**{word: chance.sample(told, len(told)) for word, told in twice.items()}, "panes": panes}


def some_size(chance, boxes, most):
    """A box and some names in any order, with at most so many cells in all."""
    while True:
        box = chance.choice(boxes)
        names = chance.sample(["a", "b", "cc", "deed", "echo", "z"], chance.randint(1, 6))
        if len(names) * len(cells_of(box)) <= most:
            return box, names


def web_cases(seed, many, boxes, most):
    """Tuples (box, names, web) of one name and more, in any order, with at most so many cells in all."""
    chance = random.Random(seed)
    sizes = [some_size(chance, boxes, most) for _ in range(many)]
    return [(box, names, some_web(chance, box, names)) for box, names in sizes]


def moves_plain(web):
    """The presses and turns of a web as deeds, in the order that [80] tells."""
    presses = [("press", *pair) for pair in sorted(set(web["presses"]))]
    return presses + [("turn", *pair) for pair in sorted(set(web["turns"]))]


def spread(sheet):
    """The up cells of a sheet as a set of (name, y, x), which stand as they do where it is read as one face."""
    return {(name, y, x) for name in sheet for x, y in up_cells(sheet[name])}


def sheet_of(box, names, cells):
    """The sheet of a box and names that has just these (name, y, x) up."""
    return {name: drawn(box, {(x, y) for other, y, x in cells if other == name}) for name in sorted(names)}


def are_plain_rows(sheets):
    """Whether the first up cell of each sheet is flat in all the others, and they stand in the order of these cells."""
    spreads = [spread(sheet) for sheet in sheets]
    if not all(spreads):
        return False
    firsts = [min(cells) for cells in spreads]
    return firsts == sorted(firsts) and all(cells & set(firsts) == {min(cells)} for cells in spreads)


class Units:
    """What a web sees, by what its deeds make of standings that have one up cell in all; cells are (name, y, x)."""

    def __init__(self, box, names, web):
        self.box, self.names = box, sorted(names)
        self.moves = moves_plain(web)
        self.all = [(name, y, x) for name in self.names for x, y in cells_of(box)]
        self.images = {deed: {unit: self.behind(unit, deed) for unit in self.all} for deed in self.moves}
        self.printed = [{(name, y, box[0] - 1 - x)} for name in web["panes"] for x, y in up_cells(web["panes"][name])]

    def behind(self, unit, deed):
        """The up cells behind a deed of the standing that has just this one up."""
        standing = {name: {(x, y) for other, y, x in [unit] if other == name} for name in self.names}
        behind = plain_deed(self.box, standing, deed)
        return {(name, y, x) for name in behind for x, y in behind[name]}

    def ahead(self, cells, deed):
        """The cells that make, each by itself, an odd number of some cells up behind a deed."""
        return {unit for unit in self.all if len(self.images[deed][unit] & cells) % 2}

    def seen(self):
        """Lists of sets of cells: what prints show at once, behind one deed more, and so on, till nothing is new."""
        steps, known = [self.printed], Span(self.printed)
        while True:
            fresh = [self.ahead(cells, deed) for cells in steps[-1] for deed in self.moves]
            kept = []
            for cells in fresh:
                rest = known.rest(cells)
                if rest:
                    known.by_first[min(rest)] = rest
                    kept.append(cells)
            if not kept:
                return steps
            steps.append(kept)

    def fewest(self, cells):
        """Of how many deeds the shortest row is whose prints tell such a difference; None where there is none."""
        for at, step in enumerate(self.seen()):
            if any(len(sheet & cells) % 2 for sheet in step):
                return at + 1
        return None

    def holds(self, cells, sheets):
        """Whether sheets are a paper that Stamps of such a difference are alike, clause by clause as [62] says it."""
        sets = [spread(sheet) for sheet in sheets]
        span = Span(sets)
        if not all(span.has(wanted) for wanted in self.printed):
            return False
        if not all(span.has(self.ahead(sheet, deed)) for sheet in sets for deed in self.moves):
            return False
        return not any(len(sheet & cells) % 2 for sheet in sets)


def differing(one, other):
    """The cells (name, y, x) in which two dicts of names with faces differ."""
    return spread(one) ^ spread(other)


def some_pair(chance, box, names):
    """Two dicts of names with faces: the same, unlike in one cell or in few ones, or any."""
    one = {name: some_face(chance, box) for name in names}
    cells = [(name, y, x) for name in names for x, y in cells_of(box)]
    many = min(len(cells), chance.choice([0, 1, 1, 1, 2, 3, len(cells) // 2]))
    return one, sheet_of(box, names, spread(one) ^ set(chance.sample(cells, many)))
