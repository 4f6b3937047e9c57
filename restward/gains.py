"""For which gains all dies: p and k times q, added, for each number k."""

from restward.errors import NoGain
from restward.minors import steep
from restward.numbers import NOUGHT, less
from restward.polys import poly, poly_sum, poly_times, scaled
from restward.stretches import stretches_of
from restward.tables import determinant
from restward.three import dies

HIGHEST = 5


def check_gain(p, q):
    """Refuses two polynomials that make none with a gain."""
    # What has a lower degree than p, and isn't nought, leaves p a degree from 1 on.
    if len(p) - 1 > HIGHEST or not q or len(q) >= len(p):
        raise NoGain("a gain is of a degree from 1 to 5, by a lower one that isn't nought")


def gained(p, q, number):
    """p and a number times q, added."""
    check_gain(p, q)
    return poly_sum(p, scaled(number, q))


def poly_through(worths):
    """The polynomial of a degree below their number that has these worths at 0, 1, 2 and on."""
    heads = []
    while worths:
        heads.append(worths[0])
        worths = [less(further, one) for one, further in zip(worths, worths[1:])]
    total = []
    # Newton's way: x over 1, x - 1 over 2, x - 2 over 3 and on go with the differences.
    for place in reversed(range(len(heads))):
        step = [(-place, 1), (1, 1)]
        total = poly_sum(poly([heads[place]]), scaled((1, place + 1), poly_times(step, total)))
    return total


def steep_poly(p, q):
    """The determinant of the steep table of p and k times q, added, as a polynomial in k."""
    return poly_through([determinant(steep(gained(p, q, (k, 1)))) for k in range(len(p))])


def gains_of(p, q):
    """A tuple (D, gains): the determinant as a polynomial in k, and all open stretches of k where all dies."""
    check_gain(p, q)
    measure = steep_poly(p, q)
    if not measure:
        return ([], [])
    ends = stretches_of(measure)
    # A point between each two roots, below all and above all: between them no root of p comes to the axis.
    points = [ends[0][0]] + [high for low, high in ends] if ends else [NOUGHT]
    gains = []
    for low, high, point in zip([None] + ends, ends + [None], points):
        if dies(gained(p, q, point)):
            gains.append((low, high))
    return (measure, gains)
