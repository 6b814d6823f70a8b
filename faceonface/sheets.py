"""Sheets: a comb or a face of one box for each of some names, read as one face, name by name, and so as a number."""

from faceonface.errors import TooGreat
from faceonface.faces import bits_of, box_of, face_of_bits, is_face_of

MOST_CELLS = 80


def cells_in(box):
    """How many cells a box has."""
    return box[0] * box[1]


def refuse_great(box, names):
    """Raise TooGreat where the names times the cells of the box are too many to be reckoned with."""
    if len(names) * cells_in(box) > MOST_CELLS:
        raise TooGreat(MOST_CELLS)


def is_sheet(box, names, thing):
    """Whether a thing is a dict of just these names, each with a comb of the box."""
    if not isinstance(thing, dict) or len(thing) != len(names):
        return False
    return all([name in thing and is_face_of(box, thing[name]) for name in names])


def bits_of_faces(faces):
    """Faces of one box, one behind another, as a number; the first cell of the first one is the highest bit."""
    bits = 0
    for face in faces:
        bits = (bits << cells_in(box_of(face))) | bits_of(face)
    return bits


def bits_of_sheet(sheet):
    """A sheet as a number, the names sorted."""
    return bits_of_faces([sheet[name] for name in sorted(sheet)])


def faces_of_bits(box, many, bits):
    """So many faces of a box, one behind another, that a number stands for."""
    size = cells_in(box)
    return [face_of_bits(box, (bits >> (size * at)) & ((1 << size) - 1)) for at in range(many - 1, -1, -1)]


def sheet_of_bits(box, names, bits):
    """The sheet of a box and names that a number stands for."""
    return dict(zip(sorted(names), faces_of_bits(box, len(names), bits)))


def sheets_of_rows(box, names, rows):
    """The sheets of a box and names that some numbers stand for."""
    return [sheet_of_bits(box, names, row) for row in rows]
