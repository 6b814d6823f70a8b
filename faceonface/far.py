"""What comes of a row that is done again and again."""

from faceonface.rows import done_row


def standings_till_round(stamps, row, most):
    """The stamps behind 0, 1, 2 .. times, at most so many, till they come round; and the place they come round to.

    The place is None where they do not come round in so many times; where most is None, they always do.
    """
    standings = [stamps]
    places = {tuple(stamps.faces().values()): 0}
    while most is None or len(standings) <= most:
        now = done_row(standings[-1], row)
        key = tuple(now.faces().values())
        if key in places:
            return (standings, places[key])
        places[key] = len(standings)
        standings.append(now)
    return (standings, None)


def far(stamps, row, number):
    """The stamps behind a row that is done so many times, or Stopped."""
    standings, lead = standings_till_round(stamps, row, number)
    if lead is None:
        return standings[number]
    return standings[lead + (number - lead) % (len(standings) - lead)]


def round_of(stamps, row):
    """The tuple (lead, length): behind how many times the standing comes again later, and how many times later."""
    standings, lead = standings_till_round(stamps, row, None)
    return (lead, len(standings) - lead)
