"""The refusals of the program."""


class WebError(ValueError):
    """Any refusal."""


class NoWeb(WebError):
    """What was handed in for a web is none."""


class NoPlace(WebError):
    """What was handed in for a place of a web is none."""


class NoPlaces(WebError):
    """What was handed in for a rising tuple of places is none."""


class NoMap(WebError):
    """What was handed in for a map is none."""


class NoSharing(WebError):
    """What was handed in for a sharing is none."""


class NoRoot(WebError):
    """What was handed in for a root paper is none."""


class NoNumber(WebError):
    """What was handed in for a number is none that is taken."""


class NotJoined(WebError):
    """The web has more than one piece."""


class NoTie(WebError):
    """A place is not tied with itself."""


class NoText(WebError):
    """The text writes no web."""


class NoLine(WebError):
    """The line is none that a desk takes."""


class NoDeed(WebError):
    """No deed stands that could be undone."""


class TooGreat(WebError):
    """There are so many of something, and at most so many are taken."""

    def __init__(self, many, most):
        self.many = many
        self.most = most
