"""Faces, deeds, rows and stamps, written as texts and read back."""

from faceonface.errors import NoText
from faceonface.kinds import is_deed, is_face
from faceonface.stamps import Stamps, are_stamps


def show_face(face):
    """A face as a text."""
    return "/".join(face)


def show_deed(deed):
    """A deed as a text."""
    if deed[0] == "cut":
        return f"cut {deed[1]} {show_face(deed[2])}"
    return " ".join(deed)


def show_row(row):
    """A row as a text, a line feed behind each deed."""
    return "".join([show_deed(deed) + "\n" for deed in row])


def show_stamps(stamps):
    """Stamps as a text, a row for each."""
    faces = stamps.faces()
    return "".join([name + " " + show_face(faces[name]) + "\n" for name in faces])


def refuse_no_text(thing):
    """Raise NoText where a thing is no text at all."""
    if not isinstance(thing, str):
        raise NoText()


def read_face(text):
    """The face that a text writes, or NoText."""
    refuse_no_text(text)
    face = tuple(text.split("/"))
    if not is_face(face):
        raise NoText()
    return face


def read_deed(text):
    """The deed that a text writes, or NoText."""
    refuse_no_text(text)
    deed = tuple(text.split(" "))
    if deed[0] == "cut" and len(deed) == 3:
        deed = ("cut", deed[1], read_face(deed[2]))
    if not is_deed(deed):
        raise NoText()
    return deed


def lines_of(text):
    """The rows of a text, which has a line feed behind each; or NoText."""
    refuse_no_text(text)
    lines = text.split("\n")
    if lines[-1] != "":
        raise NoText()
    return lines[:-1]


def read_row(text):
    """The row that a text writes, or NoText."""
    return [read_deed(line) for line in lines_of(text)]


def read_stamps(text):
    """The Stamps that a text writes, or NoText."""
    pairs = [line.split(" ") for line in lines_of(text)]
    if not all([len(pair) == 2 for pair in pairs]):
        raise NoText()
    names = [name for name, face in pairs]
    if names != sorted(set(names)):
        raise NoText()
    faces = {name: tuple(face.split("/")) for name, face in pairs}
    if not are_stamps(faces):
        raise NoText()
    return Stamps(faces)
