"""Lots: all that comes of some faces by turning them and laying them over one another."""

from faceonface.errors import NoNumber, Unlike, Wrong
from faceonface.faces import bits_of, box_of, face_of_bits, is_face_of, turned
from faceonface.kinds import is_box
from faceonface.sums import between, evens, fresh, plain_rows, reduced, vanishing
from faceonface.turnings import turnings_of

MOST_FACES = 60


def are_faces_of(box, thing):
    """Whether a thing is a list of at most 60 faces of a box."""
    if not isinstance(thing, list) or len(thing) > MOST_FACES:
        return False
    return all([is_face_of(box, face) for face in thing])


def all_turned(box, face):
    """A face of a box turned in all ways, as numbers."""
    return [bits_of(turned(face, turning)) for turning in turnings_of(box)]


def changes(box, face):
    """A face laid over itself turned, in all ways, as numbers."""
    bits = bits_of(face)
    return [bits ^ number for number in all_turned(box, face)]


def lot_of(box, numbers):
    """The lot of the faces that some numbers stand for, of any number of them."""
    return Lot(box, [face_of_bits(box, row) for row in plain_rows(numbers)])


def fresh_over(lot, faces):
    """The places of the faces that do not come of members of the lot and of the faces ahead, laid over one another."""
    return fresh(lot.basis, [bits_of(face) for face in faces])


class Lot:
    """The lot of some faces of a box; it never changes."""

    def __init__(self, box, faces):
        if not is_box(box):
            raise Wrong(0)
        if not are_faces_of(box, faces):
            raise Wrong(1)
        self.shape = box
        self.basis = plain_rows([number for face in faces for number in all_turned(box, face)])

    def box(self):
        """The box of its members."""
        return self.shape

    def rows(self):
        """Its plain rows."""
        return [face_of_bits(self.shape, row) for row in self.basis]

    def doublings(self):
        """How often it doubles from the blank face."""
        return len(self.basis)

    def has(self, face):
        """Whether a face is a member."""
        return box_of(face) == self.shape and reduced(self.basis, bits_of(face)) == 0

    def core(self):
        """The lot of all members laid over themselves turned."""
        # Of members laid over one another this comes as of each of them, so the plain rows are enough.
        return lot_of(self.shape, [number for face in self.rows() for number in changes(self.shape, face)])

    def layers(self):
        """It, its core, the core's core, and so on, to the lot of the blank face alone."""
        told = [self]
        while told[-1].doublings():
            told.append(told[-1].core())
        return told

    def still(self):
        """The lot of the members that no turning changes."""
        size = self.shape[0] * self.shape[1]
        pairs = []
        for face in self.rows():
            changed = 0
            for number in changes(self.shape, face):
                changed = (changed << size) | number
            pairs.append((changed, bits_of(face)))
        return lot_of(self.shape, vanishing(pairs, size))

    def against(self):
        """The lot of the combs that are even on each member."""
        return lot_of(self.shape, evens(self.basis, self.shape[0] * self.shape[1]))

    def makers(self):
        """As few faces as can be of which it is the lot."""
        rows = self.rows()
        # What makes the lot together with its core makes it alone: it makes each layer together with the next one,
        # and the last one is the blank face.
        return [rows[at] for at in fresh_over(self.core(), rows)]

    def member(self, number):
        """The member of this number, or NoNumber."""
        if number < 0 or number.bit_length() > self.doublings():
            raise NoNumber(number)
        bits = 0
        for at, row in enumerate(self.basis[::-1]):
            if (number >> at) & 1:
                bits ^= row
        return face_of_bits(self.shape, bits)

    def number_of(self, face):
        """The number of a member; None of any other face."""
        if not self.has(face):
            return None
        bits = bits_of(face)
        number = 0
        for row in self.basis:
            first = row.bit_length() - 1
            number = (number << 1) | ((bits >> first) & 1)
        return number

    def comb(self, face):
        """A comb that is even on all members and odd on the face; None of a member."""
        if self.has(face):
            return None
        return face_of_bits(self.shape, between(self.basis, bits_of(face)))


def refuse_unlike(one, other):
    """Raise Unlike where two lots are of unlike boxes."""
    if one.box() != other.box():
        raise Unlike()


def joined(one, other):
    """The least lot that has both lots."""
    refuse_unlike(one, other)
    return lot_of(one.box(), one.basis + other.basis)


def met(one, other):
    """The lot of what is in both lots."""
    refuse_unlike(one, other)
    wide, high = one.box()
    pairs = [(row, row) for row in one.basis] + [(row, 0) for row in other.basis]
    return lot_of(one.box(), vanishing(pairs, wide * high))


def alike(one, other):
    """Whether two lots have the same members."""
    refuse_unlike(one, other)
    return one.basis == other.basis
