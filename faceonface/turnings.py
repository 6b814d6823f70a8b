"""The eight turnings, one behind another."""

from faceonface.kinds import TURNINGS

EVEN_TURNINGS = ("m0", "m2", "r0", "r2")


def is_exchanging(turning):
    """Whether a turning exchanges left and right ahead of its quarters."""
    return turning[0] == "m"


def quarters_of(turning):
    """By how many quarters a turning turns."""
    return int(turning[1])


def turning_of(letter, quarters):
    """The turning of a letter and any number of quarters, to the left where they are below 0."""
    rest = quarters % 4
    return f"{letter}{rest}"


def both(one, other):
    """The turning that is the one, then the other."""
    quarters = quarters_of(one)
    # Quarters to the right, seen in an exchange behind them, are as many to the left.
    if is_exchanging(other):
        quarters = -quarters
    letter = "r" if is_exchanging(one) == is_exchanging(other) else "m"
    return turning_of(letter, quarters + quarters_of(other))


def undone(turning):
    """The turning that leads back."""
    if is_exchanging(turning):
        return turning
    return turning_of("r", -quarters_of(turning))


def turnings_of(box):
    """The turnings, sorted, by which the faces of a box come to faces of it."""
    if box[0] == box[1]:
        return list(TURNINGS)
    return list(EVEN_TURNINGS)
