"""Books: a row of deeds whose past may be changed, taken back and done again."""

from faceonface.errors import NoBeat, NoName, Nothing, Stopped, TooMany, Unfit, Wrong
from faceonface.kinds import is_deed, is_whole
from faceonface.stamps import Stamps, faces_behind, refuse_unfit

MOST_DEEDS = 200
MOST_DOINGS = 8


def is_place(thing):
    """Whether a thing is a number from 0 on."""
    return is_whole(thing) and thing >= 0


def is_doing(thing):
    """Whether a thing is a tuple of the word of a doing and what it is done with."""
    if not isinstance(thing, tuple) or len(thing) not in (2, 3):
        return False
    if len(thing) == 3:
        return thing[0] in ("put", "slip") and is_place(thing[1]) and is_deed(thing[2])
    if thing[0] == "do":
        return is_deed(thing[1])
    return thing[0] == "take" and is_place(thing[1])


def are_doings(thing):
    """Whether a thing is a list of one to eight tuples of doings."""
    return isinstance(thing, list) and 1 <= len(thing) <= MOST_DOINGS and all([is_doing(doing) for doing in thing])


def otherwise(ahead, behind):
    """Tuples (number, name) where faces are unlike in standings that there are in both lists, sorted."""
    told = []
    for at, (one, other) in enumerate(zip(ahead, behind)):
        told.extend([(at, name) for name in one if one[name] != other[name]])
    return told


def do_to(book, doing):
    """Do to a book what a tuple of a doing says."""
    if doing[0] == "do":
        book.do(doing[1])
    if doing[0] == "put":
        book.put(doing[1], doing[2])
    if doing[0] == "slip":
        book.slip(doing[1], doing[2])
    if doing[0] == "take":
        book.take(doing[1])


class Book:
    """Stamps, a row of deeds, and the standings behind each of them.

    A doing is kept as a tuple (at, old, new): from the place at on, the new deeds stand where the old ones stood.
    """

    def __init__(self, stamps):
        if not isinstance(stamps, Stamps):
            raise Wrong(0)
        self.began = stamps
        self.deeds = []
        self.stood = [stamps.faces()]
        self.doings = []
        self.gone = []

    def change(self, at, old, new):
        """Let the new deeds stand where the old ones stood, and tell where faces are otherwise."""
        ahead = self.stood
        self.deeds = self.deeds[:at] + list(new) + self.deeds[at + len(old):]
        self.stood = ahead[:at + 1]
        for deed in self.deeds[at:]:
            self.stood.append(faces_behind(self.stood[-1], self.began.box(), deed))
        return otherwise(ahead, self.stood)

    def act(self, at, old, new):
        """A doing that was not done before."""
        self.doings.append((at, old, new))
        self.gone = []
        return self.change(at, old, new)

    def refuse_deed(self, deed):
        """Raise NoName or Unfit where a deed cannot be done to the stamps."""
        refuse_unfit(self.stood[0], self.began.box(), deed)

    def refuse_place_and_deed(self, at, deed, most):
        """Raise what is due where a place is none up to the greatest, or a deed cannot be done."""
        if not is_place(at):
            raise Wrong(0)
        if not is_deed(deed):
            raise Wrong(1)
        self.refuse_deed(deed)
        if at > most:
            raise NoBeat(at)

    def refuse_full(self):
        """Raise TooMany where there can be no more deeds."""
        if len(self.deeds) >= MOST_DEEDS:
            raise TooMany(MOST_DEEDS)

    def do(self, deed):
        """Put a deed behind all others."""
        if not is_deed(deed):
            raise Wrong(0)
        self.refuse_deed(deed)
        self.refuse_full()
        return self.act(len(self.deeds), (), (deed,))

    def put(self, at, deed):
        """Put a deed in the place of the one of this number."""
        self.refuse_place_and_deed(at, deed, len(self.deeds) - 1)
        return self.act(at, (self.deeds[at],), (deed,))

    def slip(self, at, deed):
        """Put a deed ahead of the one of this number, or behind all."""
        self.refuse_place_and_deed(at, deed, len(self.deeds))
        self.refuse_full()
        return self.act(at, (), (deed,))

    def take(self, at):
        """Take out the deed of this number."""
        if not is_place(at):
            raise Wrong(0)
        if at >= len(self.deeds):
            raise NoBeat(at)
        return self.act(at, (self.deeds[at],), ())

    def back(self):
        """Take back the last doing that stands."""
        if not self.doings:
            raise Nothing()
        at, old, new = self.doings.pop()
        self.gone.append((at, old, new))
        return self.change(at, new, old)

    def again(self):
        """Do again the doing that was taken back last."""
        if not self.gone:
            raise Nothing()
        at, old, new = self.gone.pop()
        self.doings.append((at, old, new))
        return self.change(at, old, new)

    def row(self):
        """Its deeds."""
        return list(self.deeds)

    def length(self):
        """How many deeds it has."""
        return len(self.deeds)

    def standing(self, number):
        """Its Stamps behind so many deeds, or NoBeat."""
        if not is_place(number):
            raise Wrong(0)
        if number >= len(self.stood):
            raise NoBeat(number)
        return Stamps(self.stood[number])

    def healed(self, at, deed):
        """From which standing on all would be as they are, were the deed put in the place of this number; or None."""
        other = self.copied()
        other.put(at, deed)
        for number in range(at + 1, len(self.stood)):
            if other.stood[number] == self.stood[number]:
                return number
        return None

    def tried(self, doings):
        """The faces of the last standing that would come of some doings, or Stopped."""
        if not are_doings(doings):
            raise Wrong(0)
        other = self.copied()
        for at, doing in enumerate(doings):
            try:
                do_to(other, doing)
            except (NoName, Unfit, NoBeat, TooMany):
                raise Stopped(at) from None
        return other.standing(other.length()).faces()

    def stamps(self):
        """The very Stamps that it is of."""
        return self.began

    def copied(self):
        """A book of the same stamps, with the same row and doings, that goes on by itself."""
        other = Book(self.began)
        other.deeds = list(self.deeds)
        other.stood = list(self.stood)
        other.doings = list(self.doings)
        other.gone = list(self.gone)
        return other
