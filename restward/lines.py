"""How far left all roots of a polynomial lie, as near as one likes."""

from restward.errors import NoPolynomial
from restward.numbers import is_below, less, middle
from restward.polys import moved, power_of
from restward.stretches import bound_of
from restward.three import whole_dies
from restward.wholes import lifted


def all_below(wholes, number):
    """Whether all roots of a polynomial by wholes have real parts below a number."""
    top, bottom = number
    degree = len(wholes) - 1
    # In the place of x stands x over the bottom, which leaves all roots on their side.
    wide = [whole * power_of(bottom, degree - place) for place, whole in enumerate(wholes)]
    return whole_dies(moved(wide, top))


def line_of(p, hair):
    """A tuple (low, high), not further apart than hair: all roots' real parts are below high, not all below low."""
    if len(p) < 2:
        raise NoPolynomial("a line is of a degree from 1 on")
    wholes = lifted(p)[1]
    # Within this bound lie all roots, not the real ones alone.
    bound = bound_of(wholes)
    low, high = (-bound, 1), (bound, 1)
    while is_below(hair, less(high, low)):
        point = middle(low, high)
        if all_below(wholes, point):
            high = point
        else:
            low = point
    return (low, high)
