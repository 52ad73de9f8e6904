"""The refusals: all stand straight under CoatError.

Their messages never show what was refused: that may be anything, and not
everything can be written (a number of very many figures, say).
"""


class CoatError(ValueError):
    """What all refusals are."""


class NoSize(CoatError):
    """Something is no size."""


class NoTurn(CoatError):
    """Something is no turn, or not one of the size that is meant."""


class NoGroup(CoatError):
    """Something is no group, or not one of the size that is meant."""


class BadWeb(CoatError):
    """Of something no web can be made."""


class NoPlace(CoatError):
    """Something is no place that is meant."""

    def __init__(self, place):
        super().__init__("no such place")
        self.place = place


class NoWay(CoatError):
    """No way joins the two."""

    def __init__(self, one, other):
        super().__init__("no way joins these")
        self.one = one
        self.other = other


class NoPart(CoatError):
    """Something is no part that is meant."""


class BadFolk(CoatError):
    """Folk can't stand so; the name is None where none is to blame alone."""

    def __init__(self, name):
        super().__init__("folk can't stand so")
        self.name = name


class NoName(CoatError):
    """Something is no name that is there."""

    def __init__(self, name):
        super().__init__("nobody and nothing has that name")
        self.name = name


class NoStep(CoatError):
    """A walk can't go on at this number."""

    def __init__(self, at):
        super().__init__("no step from the empty place")
        self.at = at


class NoFold(CoatError):
    """A fold's line of this number isn't right."""

    def __init__(self, line):
        super().__init__("a line of the fold is wrong")
        self.line = line


class TooLong(CoatError):
    """More steps than the most that were asked for."""

    def __init__(self, most):
        super().__init__("more steps than that")
        self.most = most


class TooMany(CoatError):
    """More standings than the most that there may be."""

    def __init__(self, most):
        super().__init__("more standings than that")
        self.most = most


class Unlike(CoatError):
    """Two things do not go together."""


class NoWish(CoatError):
    """A wish tells of a name that the standing lacks."""

    def __init__(self, name):
        super().__init__("a wish for somebody who isn't there")
        self.name = name


class NoLog(CoatError):
    """A log's deed of this number can't be done."""

    def __init__(self, at):
        super().__init__("a deed of the log can't be done")
        self.at = at


class NoText(CoatError):
    """A text's row of this number is none by form."""

    def __init__(self, row):
        super().__init__("a row of the text can't be read")
        self.row = row
