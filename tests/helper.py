"""What several test files use: odd things, boxes, and plain cell by cell reckonings to hold the program against.

Nothing here imports the program, so that no fault of it can hide in what it is held against.
"""

import copy
import random

TURNINGS = ["m0", "m1", "m2", "m3", "r0", "r1", "r2", "r3"]
BOXES = [(wide, high) for wide in range(1, 7) for high in range(1, 7)]


def deep(kind, inmost=1):
    """A thing of 20 tuples, lists or dicts within one another."""
    thing = inmost
    for _ in range(20):
        thing = {tuple: (thing,), list: [thing], dict: {"a": thing}}[kind]
    return thing


class Plain:
    """An object of no kind that the document knows."""


def odd_things():
    """Things of any kind but numbers with a point; new ones at each call."""
    return [
        0, 1, 6, 7, -1, 10 ** 18, 10 ** 5000, -(10 ** 5000), True, False, None,
        "", "a", "abcdefgh", "abcdefghi", "A", "a1", "a b", "a\n", "\n", "~", "r0", "m3", "r4", "o", ".", "press",
        "x" * 900, (), [], {}, ("o",), ["o"], (("o",),), ("o", None), (None,), (1,), (1, 2), [1, 2], (1, 2, 3),
        (True, 1), ("press", "a", "b"), ["press", "a", "b"], ("print", "a"), ("print", ["a"]), ("print", {}),
        ({}, {}), ([], []), ((), ()), {"a": 1}, {"a": ("o",)}, {1: ("o",)}, {None: None}, {("a",): ("o",)},
        b"", b"o", (b"o",), set(), {1, 2}, frozenset(), Plain(), Plain, len,
        deep(tuple), deep(list), deep(dict), deep(tuple, "o"), (deep(tuple),), (deep(list), deep(dict)),
        ("print", deep(tuple)), ("cut", "a", deep(tuple)), ("turn", "a", deep(list)), (deep(dict), "a"),
        tuple(range(900)), list(range(900)), {k: k for k in range(900)}, ("o",) * 900, ["o"] * 900, "o" * 900,
        ("press",) + ("a",) * 900, ("cut", "a", ("o",) * 900), ("turn", "a", tuple(range(900))),
    ]


def snapshot(thing):
    """A copy of a thing, to be compared with it later."""
    return copy.deepcopy(thing)


def same(one, other):
    """Whether two things are of one class and alike throughout: True is not 1 here."""
    if isinstance(one, Plain):
        return isinstance(other, Plain)
    if type(one) is not type(other):
        return False
    if isinstance(one, (list, tuple)):
        return len(one) == len(other) and all(same(a, b) for a, b in zip(one, other))
    if isinstance(one, dict):
        return same(list(one), list(other)) and same(list(one.values()), list(other.values()))
    return one == other


def cells_of(box):
    """All cells of a box, in their order."""
    return [(x, y) for y in range(box[1]) for x in range(box[0])]


def up_cells(face):
    """The set of a face's up cells."""
    return {(x, y) for y, text in enumerate(face) for x, sign in enumerate(text) if sign == "o"}


def drawn(box, cells):
    """The face of a box that has just these cells up."""
    return tuple("".join("o" if (x, y) in cells else "." for x in range(box[0])) for y in range(box[1]))


def moved(box, cell, turning):
    """The box and the cell to which a turning brings a cell of a box, word by word as [13] says it."""
    wide, high = box
    x, y = cell
    if turning[0] == "m":
        x = wide - 1 - x
    for _ in range("0123".index(turning[1])):
        x, y = high - 1 - y, x
        wide, high = high, wide
    return (wide, high), (x, y)


def turned_cells(box, cells, turning):
    """The set of cells to which a turning brings some cells of a box."""
    return {moved(box, cell, turning)[1] for cell in cells}


def turned_plain(face, turning):
    """A face turned, cell by cell."""
    box = (len(face[0]), len(face))
    return drawn(moved(box, (0, 0), turning)[0], turned_cells(box, up_cells(face), turning))


def some_face(chance, box):
    """A face of a box by a random.Random of a fixed seed."""
    return tuple("".join(chance.choice("o.") for _ in range(box[0])) for _ in range(box[1]))


def some_faces(chance, box, many):
    """A dict of so many names with faces of a box, the names in no order."""
    names = chance.sample(["a", "b", "cc", "deed", "echo", "z", "longname"], many)
    return {name: some_face(chance, box) for name in names}


def some_deed(chance, box, names, words):
    """A deed that can be done to stamps of this box and these names, of one of the words."""
    word = chance.choice([word for word in words if word != "press" or len(names) > 1])
    if word == "press":
        return ("press", *chance.sample(names, 2))
    name = chance.choice(names)
    if word == "turn":
        return ("turn", name, chance.choice(["r1", "r2", "r3"] if box[0] == box[1] else ["r2"]))
    if word == "cut":
        return ("cut", name, some_face(chance, box))
    return ("print", name)


def some_row(chance, box, names, many, words=("press", "turn", "cut", "print")):
    """A row of so many deeds that can be done."""
    names = sorted(names)
    if len(names) == 1:
        words = [word for word in words if word != "press"]
    return [some_deed(chance, box, names, words) for _ in range(many)]


def plain_deed(box, standing, deed):
    """The sets of up cells, by names, behind a deed, word by word as [21] says it."""
    behind = {name: set(cells) for name, cells in standing.items()}
    if deed[0] == "press":
        for x, y in standing[deed[1]]:
            behind[deed[2]] ^= {(box[0] - 1 - x, y)}
    elif deed[0] == "turn":
        behind[deed[1]] = turned_cells(box, standing[deed[1]], deed[2])
    elif deed[0] == "cut":
        behind[deed[1]] = up_cells(deed[2])
    return behind


def plain_row(faces, row):
    """The faces, by names, behind a row of deeds that can all be done, cell by cell."""
    first = next(iter(faces.values()))
    box = (len(first[0]), len(first))
    standing = {name: up_cells(face) for name, face in faces.items()}
    for deed in row:
        standing = plain_deed(box, standing, deed)
    return {name: drawn(box, standing[name]) for name in sorted(standing)}


def cases(many, words=("press", "turn", "cut", "print"), least=1, length=12):
    """Many tuples (box, faces, row) of all sorts, the same ones at each run."""
    chance = random.Random(2026)
    told = []
    for at in range(many):
        box = chance.choice(BOXES) if at % 2 else (at // 2 % 6 + 1,) * 2
        faces = some_faces(chance, box, chance.randint(least, 6))
        told.append((box, faces, some_row(chance, box, faces, chance.randint(0, length), words)))
    return told
