"""All refusals: each is a class of its own, straight under TentError.

No message tells a number that was handed in: Python refuses to write out very great ones,
and the refusal would be lost in that.
"""


class TentError(ValueError):
    """What every refusal of the package is."""


class NoTent(TentError):
    """The rows make no tent."""


class NoPlace(TentError):
    """The tent has no such place."""


class NoSeam(TentError):
    """The tent has no such seam."""


class Rim(TentError):
    """A rim stands where a sewn seam is needed."""


class Locked(TentError):
    """The seam has both of its places in one cloth."""


class NoWay(TentError):
    """An exchange goes left or right and no other way."""


class NoThread(TentError):
    """The list is no plain closed thread."""


class NoCounts(TentError):
    """The numbers are not numbers of this tent."""


class Uneven(TentError):
    """The numbers of a cloth have an odd sum."""


class Wide(TentError):
    """A number is above the two others of its cloth together."""


class TooMany(TentError):
    """There are more crossings than are allowed."""


class NoWorths(TentError):
    """The fractions are not those of the sewn seams."""


class NoFraction(TentError):
    """A part of the fraction is below 1."""


class TooGreat(TentError):
    """A part of a fraction is greater than is allowed."""


class NotAlike(TentError):
    """The one tent cannot be laid on the other."""


class BadName(TentError):
    """The name has not the form of a name."""


class Taken(TentError):
    """The name stands already."""


class Unknown(TentError):
    """Nothing of that sort has this name."""


class NoDeed(TentError):
    """There is no deed to take back or to do again."""


class BadOrder(TentError):
    """The text is no order."""
