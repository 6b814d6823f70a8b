"""Wishes for faces: answered with a row of presses and turns, or with combs that say never."""

from faceonface.errors import NoName, Stopped, TooFew, Unfit, Wrong
from faceonface.faces import bits_of, box_of, is_even, is_face_of
from faceonface.kinds import is_deed, is_name
from faceonface.lots import Lot, all_turned, fresh_over, joined
from faceonface.rows import done_row
from faceonface.stamps import Stamps, are_named_faces
from faceonface.sums import is_odd, stairs
from faceonface.ways import row_to

LEAST_STAMPS = 3
MOST_DEEDS = 20000


def lot_of_stamps(stamps):
    """The lot of all the stamps' faces."""
    return Lot(stamps.box(), list(stamps.faces().values()))


def refuse_few(stamps, lot, core):
    """Raise TooFew where there are less stamps than rows can be promised of."""
    many = len(stamps.names())
    least = max(LEAST_STAMPS, lot.doublings() - core.doublings() + 1)
    if many < least:
        raise TooFew(many, least)


def refuse_wish(stamps, wish):
    """Raise what a wish of these stamps, or what is none, is refused with ahead of all reckoning."""
    if not isinstance(stamps, Stamps):
        raise Wrong(0)
    if not are_named_faces(wish):
        raise Wrong(1)
    names = stamps.names()
    for name in sorted(wish):
        if name not in names:
            raise NoName(name)
    for name in wish:
        if box_of(wish[name]) != stamps.box():
            raise Unfit()


def is_met(faces, wish):
    """Whether each named stamp has its wished face."""
    return all([faces[name] == wish[name] for name in wish])


def free_names(stamps, wish):
    """The names of the stamps that the wish does not name."""
    return [name for name in stamps.names() if name not in wish]


def combs_over(reach, lot):
    """Combs against one lot of which none, nor any laid over one another, is against another one, which has it."""
    combs = reach.against().rows()
    return [combs[at] for at in fresh_over(lot.against(), combs)]


def goals_of(stamps, wish, lot, core, reach):
    """Faces for wished and free stamps that make, with the core, all of the lot, as few as can be."""
    named = sorted(wish)
    goals = {named[at]: wish[named[at]] for at in fresh_over(core, [wish[name] for name in named])}
    makers = lot.makers()
    missing = [makers[at] for at in fresh_over(reach, makers)]
    for name, face in zip(free_names(stamps, wish), missing):
        goals[name] = face
    return goals


def answer(stamps, wish):
    """The comb, the combs or the row that answers a wish, or TooFew."""
    refuse_wish(stamps, wish)
    lot = lot_of_stamps(stamps)
    for name in sorted(wish):
        if not lot.has(wish[name]):
            return ("comb", name, lot.comb(wish[name]))
    core = lot.core()
    reach = joined(core, Lot(stamps.box(), list(wish.values())))
    if lot.doublings() - reach.doublings() > len(free_names(stamps, wish)):
        return ("combs", combs_over(reach, lot))
    refuse_few(stamps, lot, core)
    if is_met(stamps.faces(), wish):
        return ("row", [])
    return ("row", row_to(stamps, core, wish, goals_of(stamps, wish, lot, core, reach)))


def is_answer(stamps, wish, thing):
    """Whether a thing, whatever it is, shows what it says of the stamps and the wish."""
    if not isinstance(thing, tuple) or len(thing) not in (2, 3) or not isinstance(thing[0], str):
        return False
    if len(thing) == 3:
        return thing[0] == "comb" and is_comb_shown(stamps, wish, thing[1], thing[2])
    if thing[0] == "row":
        return is_row_shown(stamps, wish, thing[1])
    return thing[0] == "combs" and are_combs_shown(stamps, wish, thing[1])


def is_row_shown(stamps, wish, row):
    """Whether a thing is a row of presses and turns of the stamps behind which the wish is met."""
    if not isinstance(row, list) or len(row) > MOST_DEEDS:
        return False
    if not all([is_deed(deed) and deed[0] in ("press", "turn") for deed in row]):
        return False
    try:
        return is_met(done_row(stamps, row).faces(), wish)
    except Stopped:
        return False


def parities(stamps, name, comb):
    """Whether the comb is odd on the face of a stamp, for each turning of it."""
    return [is_odd(number & bits_of(comb)) for number in all_turned(stamps.box(), stamps.face(name))]


def is_comb_shown(stamps, wish, name, comb):
    """Whether a comb is even on all turnings of all faces, and odd on the wished face of this name."""
    if not is_name(name) or name not in wish or not is_face_of(stamps.box(), comb):
        return False
    if any([any(parities(stamps, other, comb)) for other in stamps.names()]):
        return False
    return not is_even(comb, wish[name])


def is_comb_steady(stamps, wish, comb):
    """Whether a comb has one parity on all turnings of each stamp's face, and is even on each wished face."""
    for name in stamps.names():
        odd = parities(stamps, name, comb)
        if any(odd) and not all(odd):
            return False
    return all([is_even(comb, wish[name]) for name in wish])


def odd_names(stamps, comb):
    """On which stamps' faces a comb is odd, as a number with a bit for each."""
    bits = 0
    for name in stamps.names():
        bits = (bits << 1) | (0 if is_even(comb, stamps.face(name)) else 1)
    return bits


def are_combs_shown(stamps, wish, combs):
    """Whether a thing is a list of combs as an answer has, of more than there are free stamps."""
    if not isinstance(combs, list) or not len(free_names(stamps, wish)) < len(combs) <= len(stamps.names()):
        # More of them than stamps are never unlike in earnest, so they need not be looked at.
        return False
    if not all([is_face_of(stamps.box(), comb) and is_comb_steady(stamps, wish, comb) for comb in combs]):
        return False
    return len(stairs([odd_names(stamps, comb) for comb in combs])) == len(combs)
