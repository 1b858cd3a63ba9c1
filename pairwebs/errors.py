"""The refusals: one class for each kind, all of them straight under PairError."""


class PairError(ValueError):
    """Any refusal."""


class NoWeb(PairError):
    """What was handed in for a web is none."""


class NoPlace(PairError):
    """What was handed in for a place of a web is none."""


class NoPlaces(PairError):
    """What was handed in for some places of a web are none."""


class NoTie(PairError):
    """Two places have no tie."""


class NoNumber(PairError):
    """What was handed in for a number is none, or is out of bounds."""


class NoPairing(PairError):
    """What was handed in for a pairing of a web is none."""


class NoWay(PairError):
    """What was handed in for a way is none, or there is no way."""


class NoRing(PairError):
    """What was handed in for an odd ring of a web is none."""


class NoArrows(PairError):
    """What was handed in for arrows of a web are none."""


class NoSides(PairError):
    """A web has no two sides."""


class NoText(PairError):
    """What was handed in for a text does not write what it is to write."""


class NoLine(PairError):
    """What was told to a desk is no line."""


class NoDeed(PairError):
    """A deed cannot be done at a desk."""


class TooGreat(PairError):
    """There are many of what there may be at most so many of."""

    def __init__(self, many, most):
        self.many = many
        self.most = most
