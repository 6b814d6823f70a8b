"""Faces: turned, laid over one another, and read cell by cell."""

from faceonface.kinds import is_face
from faceonface.turnings import is_exchanging, quarters_of


def blank(box):
    """The face of a box that has all cells flat."""
    return ("." * box[0],) * box[1]


def box_of(face):
    """The box of a face."""
    return (len(face[0]), len(face))


def is_face_of(box, thing):
    """Whether a thing is a face of the box."""
    return is_face(thing) and box_of(thing) == box


def exchanged(face):
    """A face with left and right exchanged."""
    return tuple([text[::-1] for text in face])


def quarter_turned(face):
    """A face turned by one quarter, to the right: its columns, read from below, become the rows."""
    from_below = face[::-1]
    return tuple(["".join([text[x] for text in from_below]) for x in range(len(face[0]))])


def turned(face, turning):
    """A face turned by a turning; by an odd number of quarters it is one of the box (high, wide)."""
    if is_exchanging(turning):
        face = exchanged(face)
    for quarter in range(quarters_of(turning)):
        face = quarter_turned(face)
    return face


def text_over(one, other):
    """Two texts of faces laid over one another."""
    return "".join(["." if sign == under else "o" for sign, under in zip(one, other)])


def over(one, other):
    """Two faces of one box laid over one another."""
    return tuple([text_over(text, under) for text, under in zip(one, other)])


def laid(box, faces):
    """The faces of a box laid over one another; of none it is the blank face."""
    face = blank(box)
    for other in faces:
        face = over(face, other)
    return face


def ups(face):
    """The up cells of a face, row by row from above, each row from the left."""
    return [(x, y) for y, text in enumerate(face) for x, sign in enumerate(text) if sign == "o"]


def face_of(box, cells):
    """The face of a box that has just these cells up."""
    up = {cell: True for cell in cells}
    return tuple(["".join(["o" if (x, y) in up else "." for x in range(box[0])]) for y in range(box[1])])


def bits_of(face):
    """A face as a number: a bit for each cell, the first cell the highest, so that numbers stand as the faces do."""
    return int("".join(face).replace(".", "0").replace("o", "1"), 2)


def face_of_bits(box, bits):
    """The face of a box that a number stands for."""
    signs = f"{bits:b}".replace("0", ".").replace("1", "o").rjust(box[0] * box[1], ".")
    return tuple([signs[at * box[0]:(at + 1) * box[0]] for at in range(box[1])])


def common(one, other):
    """The face of the cells that are up in both of two faces of one box."""
    up = {cell: True for cell in ups(other)}
    return face_of(box_of(one), [cell for cell in ups(one) if cell in up])


def is_even(comb, face):
    """Whether an even number of cells is up in both the comb and the face."""
    return len(ups(common(comb, face))) % 2 == 0
