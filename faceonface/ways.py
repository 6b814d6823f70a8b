"""A row of presses and turns to wished faces.

Stamps that make, with the core, all of the lot are kept standing, as few as can be, and all others blank. The wished
faces take the places of those that stand, one after another.
"""

from faceonface.faces import bits_of, over, turned
from faceonface.lots import fresh_over
from faceonface.sums import made_of
from faceonface.turnings import is_exchanging, quarters_of, turning_of, turnings_of, undone


def between_turns(name, turning, deeds):
    """Deeds done with a stamp turned, and turned back behind them."""
    if turning == "r0":
        return deeds
    return [("turn", name, turning), *deeds, ("turn", name, undone(turning))]


def laying(names, source, turning, target):
    """The deeds that lay the face of one stamp, turned, over that of another one; all else stays."""
    quarters = turning_of("r", quarters_of(turning))
    if is_exchanging(turning):
        # Quarters ahead of the press are seen the other way round behind it.
        return between_turns(source, undone(quarters), [("press", source, target)])
    third = [name for name in names if name not in (source, target)][0]
    # What the third one had comes to nothing the second time; the face is exchanged twice, so not at all.
    over_third = [("press", source, third), ("press", third, target)]
    return between_turns(source, quarters, over_third * 2)


class Bench:
    """Stamps that are worked on: their faces now, and the deeds that led there."""

    def __init__(self, stamps):
        self.shape = stamps.box()
        self.now = stamps.faces()
        self.deeds = []

    def made_by(self, sources, face):
        """Tuples (source, turning) of which the face comes, so turned and laid over one another."""
        pairs = [(name, turning) for name in sources for turning in turnings_of(self.shape)]
        numbers = [bits_of(turned(self.now[name], turning)) for name, turning in pairs]
        return [pairs[at] for at in made_of(numbers, bits_of(face))]

    def lay(self, sources, face, target):
        """Lay a face over the target; tell which sources are in it with an odd number of turnings."""
        terms = self.made_by(sources, face)
        for source, turning in terms:
            self.deeds.extend(laying(list(self.now), source, turning, target))
        self.now[target] = over(self.now[target], face)
        taken = [source for source, turning in terms]
        return [name for name in sources if taken.count(name) % 2 == 1]

    def wipe(self, sources, target):
        """Make the target blank by what the sources make."""
        self.lay(sources, self.now[target], target)

    def shift(self, name, other):
        """Bring the face of a stamp to another one, which is blank, and leave it blank."""
        self.lay([name], self.now[name], other)
        self.wipe([other], name)


def row_to(stamps, core, wish, goals):
    """A row to the wish and the goals, which are, with the core, all of the lot, and no more than are needed for it."""
    bench = Bench(stamps)
    names = stamps.names()
    old = [names[at] for at in fresh_over(core, [bench.now[name] for name in names])]
    for name in names:
        if name not in old:
            bench.wipe(old, name)
    new = []
    for name in goals:
        if name in old:
            empty = [other for other in names if other not in old + new][0]
            bench.shift(name, empty)
            old[old.index(name)] = empty
        odd = bench.lay(old + new, goals[name], name)
        # Not only new ones are odd, else the goal would come of the core and of other goals.
        gone = [other for other in odd if other in old][0]
        old.remove(gone)
        new.append(name)
        bench.wipe(old + new, gone)
    for name in sorted(wish):
        if name not in new:
            bench.lay(new, wish[name], name)
    return bench.deeds
