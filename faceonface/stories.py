"""Stories: what prints tell of beginnings that nobody saw."""

from faceonface.errors import NoNumber
from faceonface.faces import face_of, ups
from faceonface.kinds import is_whole
from faceonface.rows import prints_from
from faceonface.sheets import bits_of_faces, cells_in, faces_of_bits, refuse_great, sheet_of_bits, sheets_of_rows
from faceonface.sums import between, is_odd, plain_rows, reduced, sum_at


def print_places(story):
    """The places of the prints in a story."""
    return [at for at, (deed, shown) in enumerate(story) if deed[0] == "print"]


def reckoned(box, names, panes, story):
    """The tuple (columns, wanted) of numbers with a bit for each cell of each print; or TooGreat.

    By each cell of a beginning, the last one first, its column is changed in what the blank beginning shows; by the
    wanted one it must be changed to what the story shows.
    """
    refuse_great(box, names)
    row = [deed for deed, shown in story]

    def seen_from(bits):
        """What the prints show from the beginning that a number stands for."""
        return bits_of_faces(prints_from(sheet_of_bits(box, names, bits), box, row, panes))

    flat = seen_from(0)
    columns = [seen_from(1 << at) ^ flat for at in range(len(names) * cells_in(box))]
    return (columns, bits_of_faces([story[at][1] for at in print_places(story)]) ^ flat)


def solution(box, names, panes, story):
    """The tuple (beginning, rows, comb), as numbers, of a story.

    The beginning agrees, and is flat wherever one of the rows has its highest bit; the rows are the plain ones that may
    be laid over it. In a clash it is None, there are no rows, and the comb is even on all columns and odd on what is
    wanted.
    """
    columns, wanted = reckoned(box, names, panes, story)
    size = len(columns)
    # The low bits keep of which cells a row is the sum.
    rows = plain_rows([(column << size) | (1 << at) for at, column in enumerate(columns)])
    rest = reduced(rows, wanted << size)
    if rest >> size:
        return (None, [], between([row >> size for row in rows if row >> size], wanted))
    return (rest, [row for row in rows if row >> size == 0], 0)


def agree(box, names, panes, story):
    """A beginning and sheets of which all beginnings come that agree with a story, or the cells of a clash."""
    beginning, rows, comb = solution(box, names, panes, story)
    if beginning is None:
        places = print_places(story)
        faces = faces_of_bits(box, len(places), comb)
        return ("clash", [(place, cell) for place, face in zip(places, faces) for cell in ups(face)])
    return ("some", sheet_of_bits(box, names, beginning), sheets_of_rows(box, names, rows))


def agree_many(box, names, panes, story):
    """How many beginnings agree with a story."""
    beginning, rows, comb = solution(box, names, panes, story)
    return 0 if beginning is None else 1 << len(rows)


def agreeing(box, names, panes, story, number):
    """The beginning of this number that agrees with a story, or NoNumber."""
    beginning, rows, comb = solution(box, names, panes, story)
    if beginning is None or number < 0 or number.bit_length() > len(rows):
        raise NoNumber(number)
    return sheet_of_bits(box, names, beginning ^ sum_at(rows, number))


def sure(box, names, panes, story):
    """Tuples (name, cell, truth) of the cells that are the same in all beginnings that agree, sorted."""
    beginning, rows, comb = solution(box, names, panes, story)
    if beginning is None:
        return []
    steady = (1 << (len(names) * cells_in(box))) - 1
    for row in rows:
        steady &= steady ^ row
    up = sheet_of_bits(box, names, steady & beginning)
    flat = sheet_of_bits(box, names, steady & (steady ^ beginning))
    told = [(name, cell, True) for name in names for cell in ups(up[name])]
    return sorted(told + [(name, cell, False) for name in names for cell in ups(flat[name])])


def is_seen(panes, story, thing):
    """Whether a thing is a tuple of the place of a print in a story and an up cell of its pane."""
    if not isinstance(thing, tuple) or len(thing) != 2:
        return False
    place, cell = thing
    if not is_whole(place) or place not in print_places(story):
        return False
    if not isinstance(cell, tuple) or not all([is_whole(part) for part in cell]):
        return False
    name = story[place][0][1]
    return name in panes and cell in ups(panes[name])


def is_clash(box, names, panes, story, thing):
    """Whether a thing, whatever it is, is the list of cells of a clash of a story."""
    columns, wanted = reckoned(box, names, panes, story)
    if not isinstance(thing, list) or not all([is_seen(panes, story, part) for part in thing]):
        return False
    if len(set(thing)) != len(thing):
        return False
    combs = [face_of(box, [cell for place, cell in thing if place == at]) for at in print_places(story)]
    comb = bits_of_faces(combs)
    return is_odd(comb & wanted) and not any([is_odd(comb & column) for column in columns])
