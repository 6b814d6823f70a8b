"""Webs: what may be done and seen by stamps of some names."""

from faceonface.errors import Unlike, Wrong
from faceonface.faces import is_face_of
from faceonface.kinds import TURNS, is_box, is_name
from faceonface.stamps import MOST_STAMPS
from faceonface.turnings import turnings_of

MOST_PAIRS = 60


def are_names(thing):
    """Whether a thing is a list of one to six unlike names."""
    if not isinstance(thing, list) or not 1 <= len(thing) <= MOST_STAMPS:
        return False
    return all([is_name(name) for name in thing]) and len(set(thing)) == len(thing)


def are_pairs(thing):
    """Whether a thing is a list of at most 60 tuples of two."""
    if not isinstance(thing, list) or len(thing) > MOST_PAIRS:
        return False
    return all([isinstance(pair, tuple) and len(pair) == 2 for pair in thing])


def are_presses(names, thing):
    """Whether a thing is a list of tuples of two unlike ones of the names."""
    if not are_pairs(thing):
        return False
    return all([one in names and other in names and one != other for one, other in thing])


def are_turns(box, names, thing):
    """Whether a thing is a list of tuples of one of the names and a turning that the box has."""
    if not are_pairs(thing):
        return False
    fit = [turning for turning in TURNS if turning in turnings_of(box)]
    return all([name in names and turning in fit for name, turning in thing])


def are_panes(box, names, thing):
    """Whether a thing is a dict of some of the names with combs of the box."""
    if not isinstance(thing, dict):
        return False
    return all([name in names and is_face_of(box, thing[name]) for name in thing])


class Web:
    """Presses and turns that may be done, and panes through which may be printed; it never changes."""

    def __init__(self, box, names, *, presses, turns, panes):
        if not is_box(box):
            raise Wrong(0)
        if not are_names(names):
            raise Wrong(1)
        if not are_presses(names, presses):
            raise Wrong(2)
        if not are_turns(box, names, turns):
            raise Wrong(3)
        if not are_panes(box, names, panes):
            raise Wrong(4)
        self.shape = box
        self.known = sorted(names)
        self.by_press = sorted(set(presses))
        self.by_turn = sorted(set(turns))
        self.by_print = {name: panes[name] for name in sorted(panes)}

    def box(self):
        """The box of its stamps."""
        return self.shape

    def names(self):
        """The names of its stamps, sorted."""
        return list(self.known)

    def presses(self):
        """The presses that may be done, sorted, each once."""
        return list(self.by_press)

    def turns(self):
        """The turns that may be done, sorted, each once."""
        return list(self.by_turn)

    def panes(self):
        """The panes by names, the names sorted."""
        return {name: self.by_print[name] for name in self.by_print}


def moves_of(web):
    """The presses and turns of a web as deeds: presses sorted, then turns sorted."""
    presses = [("press", one, other) for one, other in web.presses()]
    return presses + [("turn", name, turning) for name, turning in web.turns()]


def refuse_others(web, stamps):
    """Raise Unlike where stamps have not the names and the box of the web."""
    if stamps.names() != web.names() or stamps.box() != web.box():
        raise Unlike()
