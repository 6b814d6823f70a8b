"""What it costs, by the presses and turns of a web, to come to a wish."""

from faceonface.errors import TooMany
from faceonface.kinds import is_whole
from faceonface.sheets import is_sheet
from faceonface.stamps import faces_behind
from faceonface.webs import moves_of, refuse_others
from faceonface.wishes import is_met


def walked(web, stamps, most):
    """The tuple (reached, leads): the standings in their order, and for each the places that the moves lead to."""
    refuse_others(web, stamps)
    moves = moves_of(web)
    reached = [stamps.faces()]
    places = {tuple(reached[0].values()): 0}
    leads = []
    while len(leads) < len(reached):
        faces = reached[len(leads)]
        ends = []
        for deed in moves:
            behind = faces_behind(faces, web.box(), deed)
            key = tuple(behind.values())
            if key not in places:
                if len(reached) >= most:
                    raise TooMany(most)
                places[key] = len(reached)
                reached.append(behind)
            ends.append(places[key])
        leads.append(ends)
    return (reached, leads)


def standings(web, stamps, *, most=600):
    """All standings that the presses and turns of the web lead to, in the order in which they are met."""
    return walked(web, stamps, most)[0]


def costs_of(moves, press, turn):
    """What each of some presses and turns costs."""
    return [press if deed[0] == "press" else turn for deed in moves]


def ways_into(leads, costs):
    """For each place the tuples (place ahead, cost) of the moves that lead to it."""
    into = [[] for ends in leads]
    for ahead, ends in enumerate(leads):
        for end, cost in zip(ends, costs):
            into[end].append((ahead, cost))
    return into


def least_ways(leads, costs, goals):
    """For each place from which there is a way to a goal, the tuple (cost, deeds) of the cheapest and then shortest."""
    into = ways_into(leads, costs)
    known = {}
    waiting = {place: (0, 0) for place in goals}
    while waiting:
        least, place = min([(way, at) for at, way in waiting.items()])
        known[place] = least
        del waiting[place]
        for ahead, cost in into[place]:
            longer = (least[0] + cost, least[1] + 1)
            if ahead not in known and (ahead not in waiting or longer < waiting[ahead]):
                waiting[ahead] = longer
    return known


def priced(reached, ways):
    """Tuples (standing, price) of all standings, in their order."""
    return [(faces, ways[at][0] if at in ways else None) for at, faces in enumerate(reached)]


def goals_among(reached, wish):
    """The places of the standings that meet a wish."""
    return [at for at, faces in enumerate(reached) if is_met(faces, wish)]


def prices(web, stamps, wish, *, most=600, press=1, turn=0):
    """The prices of all standings for a wish."""
    reached, leads = walked(web, stamps, most)
    return priced(reached, least_ways(leads, costs_of(moves_of(web), press, turn), goals_among(reached, wish)))


def fewest(web, stamps, wish, *, most=600, press=1, turn=0):
    """A cheapest row to a wish, of the fewest deeds; or the prices, by which there is none."""
    reached, leads = walked(web, stamps, most)
    moves = moves_of(web)
    costs = costs_of(moves, press, turn)
    ways = least_ways(leads, costs, goals_among(reached, wish))
    if 0 not in ways:
        return ("never", priced(reached, ways))
    row = []
    place = 0
    while ways[place] != (0, 0):
        cost, deeds = ways[place]
        fit = [at for at, end in enumerate(leads[place]) if ways.get(end) == (cost - costs[at], deeds - 1)]
        row.append(moves[fit[0]])
        place = leads[place][fit[0]]
    return ("row", row)


def is_priced(web, thing):
    """Whether a thing is a tuple of a standing of the web and a number from 0 on or None."""
    if not isinstance(thing, tuple) or len(thing) != 2 or not is_sheet(web.box(), web.names(), thing[0]):
        return False
    return thing[1] is None or is_whole(thing[1]) and thing[1] >= 0


def is_too_great(price, cost, further):
    """Whether a price is above a cost and a further price together, None being above all numbers."""
    if further is None:
        return False
    return price is None or price > cost + further


def key_of(names, faces):
    """A standing as a tuple of its faces."""
    return tuple([faces[name] for name in names])


def is_fair(web, stamps, wish, thing, *, press=1, turn=0):
    """Whether a thing, whatever it is, is a list of fair prices for a wish."""
    refuse_others(web, stamps)
    if not isinstance(thing, list) or not all([is_priced(web, pair) for pair in thing]):
        return False
    names = web.names()
    known = {key_of(names, faces): price for faces, price in thing}
    if len(known) != len(thing) or key_of(names, stamps.faces()) not in known:
        return False
    if not all([price == 0 for faces, price in thing if is_met(faces, wish)]):
        return False
    moves = moves_of(web)
    costs = costs_of(moves, press, turn)
    for faces, price in thing:
        for deed, cost in zip(moves, costs):
            key = key_of(names, faces_behind(faces, web.box(), deed))
            if key not in known or is_too_great(price, cost, known[key]):
                return False
    return True
