"""Stamps, by names, with faces of one box, and what comes of a deed."""

from faceonface.errors import NoName, Unfit, Wrong
from faceonface.faces import box_of, exchanged, over, turned
from faceonface.kinds import is_deed, is_face, is_name
from faceonface.turnings import turnings_of

MOST_STAMPS = 6


def are_named_faces(thing):
    """Whether a thing is a dict of one to six names with faces, of any boxes."""
    if not isinstance(thing, dict) or not 1 <= len(thing) <= MOST_STAMPS:
        return False
    return all([is_name(name) and is_face(thing[name]) for name in thing])


def are_stamps(thing):
    """Whether a thing is a dict of one to six names with faces of one box."""
    if not are_named_faces(thing):
        return False
    boxes = [box_of(thing[name]) for name in thing]
    return all([box == boxes[0] for box in boxes])


def refuse_unfit(faces, box, deed):
    """Raise NoName or Unfit where the deed cannot be done to these faces of the box."""
    names = deed[1:] if deed[0] == "press" else deed[1:2]
    for name in names:
        if name not in faces:
            raise NoName(name)
    if deed[0] == "turn" and deed[2] not in turnings_of(box):
        raise Unfit()
    if deed[0] == "cut" and box_of(deed[2]) != box:
        raise Unfit()


def faces_behind(faces, box, deed):
    """The faces, by names, that come of a deed, in a new dict; refused with NoName, then with Unfit."""
    refuse_unfit(faces, box, deed)
    behind = {name: faces[name] for name in faces}
    name = deed[1]
    if deed[0] == "press":
        behind[deed[2]] = over(faces[deed[2]], exchanged(faces[name]))
    if deed[0] == "turn":
        behind[name] = turned(faces[name], deed[2])
    if deed[0] == "cut":
        behind[name] = deed[2]
    return behind


class Stamps:
    """One to six stamps; they never change, a deed makes others."""

    def __init__(self, faces):
        if not are_stamps(faces):
            raise Wrong(0)
        self.held = {name: faces[name] for name in sorted(faces)}

    def box(self):
        """The box of all the faces."""
        return box_of(self.held[self.names()[0]])

    def names(self):
        """The names, sorted."""
        return list(self.held)

    def faces(self):
        """The faces by names, the names sorted."""
        return {name: self.held[name] for name in self.held}

    def face(self, name):
        """The face of the stamp of this name, or NoName."""
        if name not in self.held:
            raise NoName(name)
        return self.held[name]

    def done(self, deed):
        """The stamps that come of a deed."""
        if not is_deed(deed):
            raise Wrong(0)
        return Stamps(faces_behind(self.held, self.box(), deed))
