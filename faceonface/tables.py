"""Tables: what a row without cuts makes of any stamps, turning by turning."""

from faceonface.errors import HasCut, NoWay, Unlike
from faceonface.faces import laid, turned
from faceonface.stamps import Stamps
from faceonface.sums import inverse, power, product
from faceonface.turnings import both, turnings_of


def are_turnings(box, thing):
    """Whether a thing is a tuple of one or more unlike turnings of a box, sorted."""
    known = turnings_of(box)
    if not isinstance(thing, tuple) or not 1 <= len(thing) <= len(known):
        return False
    if not all([turning in known for turning in thing]):
        return False
    return all([one < other for one, other in zip(thing, thing[1:])])


def is_entry(box, names, thing):
    """Whether a thing can stand by a name in a table: a dict of some of the names with turnings."""
    if not isinstance(thing, dict):
        return False
    return all([name in names and are_turnings(box, thing[name]) for name in thing])


def is_table(box, names, thing):
    """Whether a thing, whatever it is, is a table of a box and names."""
    if not isinstance(thing, dict) or len(thing) != len(names):
        return False
    return all([name in thing and is_entry(box, names, thing[name]) for name in names])


def followed(entry, turning):
    """What stands by a name, each turning followed by another one."""
    return {name: tuple(sorted([both(first, turning) for first in entry[name]])) for name in entry}


def entries_laid(one, other):
    """What stands by two names laid over one another, two alike turnings for one name coming to nothing."""
    told = {}
    for name in sorted(set(one) | set(other)):
        turnings = sorted(set(one.get(name, ())) ^ set(other.get(name, ())))
        if turnings:
            told[name] = tuple(turnings)
    return told


def table_of(box, names, row):
    """The table of a row, or HasCut."""
    for at, deed in enumerate(row):
        if deed[0] == "cut":
            raise HasCut(at)
    table = {name: {name: ("r0",)} for name in sorted(names)}
    for deed in row:
        if deed[0] == "turn":
            table[deed[1]] = followed(table[deed[1]], deed[2])
        if deed[0] == "press":
            table[deed[2]] = entries_laid(table[deed[2]], followed(table[deed[1]], "m0"))
    return table


def places_of(box, table):
    """A place in a row of bits for each name of a table and each turning, in their order."""
    pairs = [(name, turning) for name in sorted(table) for turning in turnings_of(box)]
    return {pair: at for at, pair in enumerate(pairs)}


def bits_of_entry(places, entry, turning):
    """What stands by a name, followed by a turning, as a row of bits."""
    bits = 0
    for name in entry:
        for first in entry[name]:
            bits |= 1 << places[(name, both(first, turning))]
    return bits


def rows_of(box, table):
    """A table as rows of bits: for each name and turning what stands by the name, followed by the turning.

    With these rows one table behind another one is a plain product, and so is one that leads back.
    """
    places = places_of(box, table)
    return [bits_of_entry(places, table[name], turning) for name, turning in places]


def entry_of_bits(places, bits):
    """What stands by a name, of a row of bits."""
    entry = {}
    for name, turning in places:
        if (bits >> places[(name, turning)]) & 1:
            entry[name] = entry.get(name, ()) + (turning,)
    return entry


def table_of_rows(places, rows):
    """The table of rows of bits; those of each name followed by r0 say it all."""
    return {name: entry_of_bits(places, rows[places[(name, turning)]]) for name, turning in places if turning == "r0"}


def behind(box, one, other):
    """The table of one and another one behind it."""
    return table_of_rows(places_of(box, one), product(rows_of(box, other), rows_of(box, one)))


def undone_table(box, table):
    """The table that leads back, or NoWay."""
    rows = inverse(rows_of(box, table))
    if rows is None:
        raise NoWay()
    return table_of_rows(places_of(box, table), rows)


def many_times(box, table, number):
    """A table so many times, one behind another."""
    return table_of_rows(places_of(box, table), power(rows_of(box, table), number))


def made(table, stamps):
    """The stamps that a table makes of stamps, or Unlike."""
    if sorted(table) != stamps.names():
        raise Unlike()
    faces = stamps.faces()
    told = {}
    for name in faces:
        entry = table[name]
        parts = [turned(faces[source], turning) for source in entry for turning in entry[source]]
        told[name] = laid(stamps.box(), parts)
    return Stamps(told)
