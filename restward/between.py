"""Halves of a polynomial, and points between their roots."""

from restward.errors import NoPolynomial
from restward.numbers import NOUGHT
from restward.polys import poly, poly_times
from restward.stretches import stretches_of
from restward.three import three


def halves(p):
    """A tuple (E, O): p is E of x x, and x times O of x x, added."""
    return (poly(p[0::2]), poly(p[1::2]))


def points_between(p):
    """("points", points) where p dies, else ("not", left, on, right)."""
    if len(p) < 2:
        raise NoPolynomial("points between are of a degree from 1 on")
    numbers = three(p)
    if numbers[0] < len(p) - 1:
        return ("not",) + numbers
    even, odd = halves(p)
    # Where p dies, all roots of both halves are below 0, none stands twice, and they lie by turns: so the points are
    # any that part them, and one below all.
    lows = [low for low, high in stretches_of(poly_times(even, odd))]
    return ("points", [NOUGHT] + lows[::-1])
