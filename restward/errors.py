"""The refusals: one base, and each other one straight under it."""


class RestError(ValueError):
    """Whatever Restward refuses."""


class NoFraction(RestError):
    """Something was to stand over 0."""


class NoPolynomial(RestError):
    """A polynomial is nought, or of a degree that isn't due."""


class NoStretch(RestError):
    """What was handed in is no stretch."""


class NoRow(RestError):
    """What was handed in are no divisions."""


class NoPair(RestError):
    """Two things don't fit one another."""


class NoBack(RestError):
    """A table has no back."""


class NoForm(RestError):
    """A table is no form."""


class NoParts(RestError):
    """What was handed in are no parts."""


class NoDegree(RestError):
    """A degree isn't due."""


class NoSteps(RestError):
    """What was handed in are no steps."""


class NoBox(RestError):
    """What was handed in is no box."""


class NoGain(RestError):
    """Two polynomials don't make one with a gain."""


class NoText(RestError):
    """What was handed in isn't written so."""


class NoLine(RestError):
    """What was handed in is no row of the desk."""


class NoName(RestError):
    """Nothing of the kind stands by a name."""


class NoDeed(RestError):
    """There is nothing to take back."""
