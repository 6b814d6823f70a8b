"""Which stamps no prints tell apart, and what is never seen."""

from faceonface.faces import blank, exchanged, face_of, over, turned, ups
from faceonface.sheets import bits_of_sheet, cells_in, is_sheet, refuse_great, sheet_of_bits, sheets_of_rows
from faceonface.sums import evens, is_odd, plain_rows, reduced, stairs
from faceonface.turnings import undone
from faceonface.webs import moves_of, refuse_others


def sheet_ahead(sheet, deed):
    """The sheet that is even ahead of a press, a turn or a print just where this one is even behind it."""
    ahead = {name: sheet[name] for name in sorted(sheet)}
    name = deed[1]
    if deed[0] == "press":
        ahead[name] = over(sheet[name], exchanged(sheet[deed[2]]))
    if deed[0] == "turn":
        ahead[name] = turned(sheet[name], undone(deed[2]))
    return ahead


def printed_sheets(web):
    """Tuples (name, sheet) for each name in panes and each cell that its print shows: up is that cell of the stamp."""
    box = web.box()
    panes = web.panes()
    flat = {name: blank(box) for name in web.names()}
    # A print is exchanged, so what is seen through the pane's cells are the cells of the pane exchanged.
    return [(name, {**flat, name: face_of(box, [cell])}) for name in panes for cell in ups(exchanged(panes[name]))]


def seen(web):
    """Tuples (sheet as a number, row): by the last deed of the row, a print, the sheet on the beginning is seen.

    What any row sees is a sum of such sheets of rows that are no longer; the shorter rows come first.
    """
    moves = moves_of(web)
    known = []
    told = []
    waiting = [(sheet, [("print", name)]) for name, sheet in printed_sheets(web)]
    while waiting:
        longer = []
        for sheet, row in waiting:
            bits = bits_of_sheet(sheet)
            rest = reduced(known, bits)
            if rest:
                known.append(rest)
                told.append((bits, row))
                longer.extend([(sheet_ahead(sheet, deed), [deed, *row]) for deed in moves])
        waiting = longer
    return told


def difference(web, one, other):
    """What two Stamps come to, laid over one another, as a number; Unlike or TooGreat where it is refused."""
    refuse_others(web, one)
    refuse_others(web, other)
    refuse_great(web.box(), web.names())
    return bits_of_sheet(one.faces()) ^ bits_of_sheet(other.faces())


def apart(web, one, other):
    """A row of the fewest deeds whose prints tell two Stamps apart, or sheets that show that there is none."""
    changed = difference(web, one, other)
    told = seen(web)
    for bits, row in told:
        if is_odd(bits & changed):
            return ("row", row)
    return ("alike", sheets_of_rows(web.box(), web.names(), plain_rows([bits for bits, row in told])))


def is_alike(web, one, other, thing):
    """Whether a thing, whatever it is, is a paper that two Stamps are alike by the web."""
    changed = difference(web, one, other)
    box = web.box()
    names = web.names()
    if not isinstance(thing, list) or not all([is_sheet(box, names, sheet) for sheet in thing]):
        return False
    # What holds of these rows holds of all that comes of them, so of each sheet of the list.
    rows = stairs([bits_of_sheet(sheet) for sheet in thing])
    if any([is_odd(row & changed) for row in rows]):
        return False
    wanted = [sheet for name, sheet in printed_sheets(web)]
    for row in rows:
        wanted.extend([sheet_ahead(sheet_of_bits(box, names, row), deed) for deed in moves_of(web)])
    return all([reduced(rows, bits_of_sheet(sheet)) == 0 for sheet in wanted])


def unseen(web):
    """The plain rows of the differences that no prints tell apart."""
    box = web.box()
    names = web.names()
    refuse_great(box, names)
    return sheets_of_rows(box, names, evens([bits for bits, row in seen(web)], len(names) * cells_in(box)))
