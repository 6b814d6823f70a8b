"""Rows of deeds: done, led back, and printed through panes."""

from faceonface.errors import NoName, Stopped, Unfit
from faceonface.faces import blank, common, exchanged
from faceonface.stamps import Stamps, faces_behind
from faceonface.turnings import undone


def step(faces, box, at, deed):
    """The faces behind the deed at a place of a row; Stopped of the place where the deed is refused."""
    try:
        return faces_behind(faces, box, deed)
    except (NoName, Unfit):
        raise Stopped(at) from None


def done_row(stamps, row):
    """The stamps behind all deeds of a row."""
    box = stamps.box()
    faces = stamps.faces()
    for at, deed in enumerate(row):
        faces = step(faces, box, at, deed)
    return Stamps(faces)


def deeds_back(faces, deed):
    """The deeds, one or none, that undo a deed done to these faces."""
    if deed[0] == "press":
        return [deed]
    if deed[0] == "turn":
        return [("turn", deed[1], undone(deed[2]))]
    if deed[0] == "cut":
        return [("cut", deed[1], faces[deed[1]])]
    return []


def led_back(stamps, row):
    """The row that leads back from behind a row to the stamps."""
    box = stamps.box()
    faces = stamps.faces()
    undoing = []
    for at, deed in enumerate(row):
        behind = step(faces, box, at, deed)
        undoing.extend(deeds_back(faces, deed))
        faces = behind
    return undoing[::-1]


def shown(face, pane):
    """What a print of a face shows through a pane."""
    return common(exchanged(face), pane)


def print_of(faces, box, name, panes):
    """What a print of the stamp of this name shows."""
    if name not in panes:
        return blank(box)
    return shown(faces[name], panes[name])


def prints_from(faces, box, row, panes):
    """What the prints of a row show that is done to faces of a box, in order."""
    told = []
    for at, deed in enumerate(row):
        faces = step(faces, box, at, deed)
        if deed[0] == "print":
            told.append(print_of(faces, box, deed[1], panes))
    return told


def prints(stamps, row, panes):
    """What the prints of a row show, in order."""
    return prints_from(stamps.faces(), stamps.box(), row, panes)
