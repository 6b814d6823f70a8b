"""How many standings can come by presses and turns."""

from faceonface.wishes import lot_of_stamps, refuse_few


def lists_of_rank(many, whole, rank):
    """How many lists of so many members there are, of a lot that doubles whole times, that double rank times together.

    Turnings do not matter here.
    """
    top = 1
    bottom = 1
    for at in range(rank):
        top *= ((1 << many) - (1 << at)) * ((1 << whole) - (1 << at))
        bottom *= (1 << rank) - (1 << at)
    return top // bottom


def some_many(stamps, names):
    """How many lists of faces the stamps of these names can have together, the others having whatever can come."""
    lot = lot_of_stamps(stamps)
    core = lot.core()
    refuse_few(stamps, lot, core)
    gap = lot.doublings() - core.doublings()
    many = len(names)
    # What the named ones fall short of the whole, the others must make up.
    least = max(0, gap - (len(stamps.names()) - many))
    over_core = sum([lists_of_rank(many, gap, rank) for rank in range(least, min(many, gap) + 1)])
    return over_core << (many * core.doublings())


def standings_many(stamps):
    """How many standings of all stamps can come."""
    return some_many(stamps, stamps.names())
