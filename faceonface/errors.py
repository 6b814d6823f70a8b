"""The refusals.

Their messages are fixed texts that leave out what they are made with: a refusal may be made of any thing,
and not every thing can be shown (a number of very many figures cannot). The fields hold the things themselves.
"""


class StampError(ValueError):
    """What stands above all refusals; made of one text."""

    def __init__(self, text):
        ValueError.__init__(self, text)


class Wrong(StampError):
    """The thing handed in at this place is not as told."""

    def __init__(self, at):
        StampError.__init__(self, "a thing that was handed in is not as told")
        self.at = at


class NoName(StampError):
    """There is no stamp by this name."""

    def __init__(self, name):
        StampError.__init__(self, "there is no stamp by this name")
        self.name = name


class Unfit(StampError):
    """A turning that the box has not, or a face of another box."""

    def __init__(self):
        StampError.__init__(self, "the turning or the face does not fit the box")


class Stopped(StampError):
    """The one at this place, of several to be done, is refused."""

    def __init__(self, at):
        StampError.__init__(self, "one of those to be done is refused")
        self.at = at


class Unlike(StampError):
    """Boxes or names are unlike that must be the same."""

    def __init__(self):
        StampError.__init__(self, "boxes or names are not the same")


class NoNumber(StampError):
    """There is nothing of this number."""

    def __init__(self, number):
        StampError.__init__(self, "there is nothing of this number")
        self.number = number


class TooFew(StampError):
    """There are so many stamps, and at least so many are needed."""

    def __init__(self, many, least):
        StampError.__init__(self, "there are too few stamps")
        self.many = many
        self.least = least


class HasCut(StampError):
    """The row has a cut, the first one at this place."""

    def __init__(self, at):
        StampError.__init__(self, "the row has a cut")
        self.at = at


class NoWay(StampError):
    """No table leads back."""

    def __init__(self):
        StampError.__init__(self, "no table leads back")


class TooGreat(StampError):
    """The names times the cells of the box are more than this."""

    def __init__(self, most):
        StampError.__init__(self, "there are too many cells in all")
        self.most = most


class TooMany(StampError):
    """There are more than this."""

    def __init__(self, most):
        StampError.__init__(self, "there are too many")
        self.most = most


class NoText(StampError):
    """What was handed in writes nothing that can be read."""

    def __init__(self):
        StampError.__init__(self, "this writes nothing that can be read")


class NoBeat(StampError):
    """There is no deed or standing of this number."""

    def __init__(self, at):
        StampError.__init__(self, "there is no deed or standing of this number")
        self.at = at


class Nothing(StampError):
    """There is nothing to take back or to do again."""

    def __init__(self):
        StampError.__init__(self, "there is nothing to take back or to do again")
