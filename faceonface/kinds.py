"""Whether a thing, whatever it is, is of one of the kinds that the program knows."""

MOST_LETTERS = 8
MOST_EDGE = 6
TURNINGS = ("m0", "m1", "m2", "m3", "r0", "r1", "r2", "r3")
TURNS = ("r1", "r2", "r3")


def is_whole(thing):
    """Whether a thing is a number; Python takes truths for ints, the document does not."""
    return isinstance(thing, int) and not isinstance(thing, bool)


def is_name(thing):
    """Whether a thing is a text of one to eight small letters."""
    if not isinstance(thing, str) or not 1 <= len(thing) <= MOST_LETTERS:
        return False
    return all(["a" <= sign <= "z" for sign in thing])


def is_edge(thing):
    """Whether a thing is a number that a box may be wide or high."""
    return is_whole(thing) and 1 <= thing <= MOST_EDGE


def is_box(thing):
    """Whether a thing is a tuple (wide, high)."""
    return isinstance(thing, tuple) and len(thing) == 2 and is_edge(thing[0]) and is_edge(thing[1])


def is_face_text(thing):
    """Whether a thing can be one of the texts of a face."""
    if not isinstance(thing, str) or not is_edge(len(thing)):
        return False
    return all([sign in ("o", ".") for sign in thing])


def is_face(thing):
    """Whether a thing is a face of some box."""
    if not isinstance(thing, tuple) or not is_edge(len(thing)):
        return False
    if not all([is_face_text(text) for text in thing]):
        return False
    return all([len(text) == len(thing[0]) for text in thing])


def is_turning(thing):
    """Whether a thing is one of the eight turnings."""
    return isinstance(thing, str) and thing in TURNINGS


def is_deed(thing):
    """Whether a thing is a press, a turn, a cut or a print."""
    if not isinstance(thing, tuple) or len(thing) not in (2, 3) or not isinstance(thing[0], str):
        return False
    if not is_name(thing[1]):
        return False
    if len(thing) == 2:
        return thing[0] == "print"
    return is_deed_of_three(thing[0], thing[1], thing[2])


def is_deed_of_three(word, name, last):
    """Whether a word, a name and a last thing make a press, a turn or a cut."""
    if word == "press":
        return is_name(last) and last != name
    if word == "turn":
        return isinstance(last, str) and last in TURNS
    return word == "cut" and is_face(last)
