"""The divisions of a polynomial: its powers by turns, divided by one another, there and back."""

from restward.errors import NoPolynomial, NoRow
from restward.numbers import NOUGHT, ONE
from restward.polys import is_polynomial, poly
from restward.wholes import form_divided, form_sum, form_times, lifted, lowered

HIGHEST = 14


def by_turns(p):
    """A tuple (first, second): p by its powers n, n - 2 and so on, n its degree, and by the others."""
    lead = len(p) - 1
    first = [NOUGHT if (lead - place) & 1 else number for place, number in enumerate(p)]
    second = [number if (lead - place) & 1 else NOUGHT for place, number in enumerate(p)]
    return first, poly(second)


def division_forms(p):
    """A tuple (quotients, last): the divisions of p, each as a number above 0 and wholes."""
    first, second = by_turns(p)
    one, other = lifted(first), lifted(second)
    quotients = []
    while other[1]:
        quotient, rest = form_divided(one, other)
        quotients.append(quotient)
        one, other = other, rest
    return quotients, one


def divisions(p):
    """A tuple (quotients, last): the divisions of p."""
    if not p:
        raise NoPolynomial("nought has no divisions")
    quotients, (last_scale, last) = division_forms(p)
    return ([lowered(scale, wholes) for scale, wholes in quotients], lowered(last_scale, last))


def has_alone(p, odd):
    """Whether a polynomial, not nought, has odd powers alone (odd is 1), or even ones alone (odd is 0)."""
    return all([number == NOUGHT for number in p[1 - odd::2]])


def is_row(quotients, last):
    """Whether any two things are the divisions of a polynomial."""
    if not isinstance(quotients, list):
        return False
    for thing in quotients + [last]:
        if not is_polynomial(thing) or not thing:
            return False
    if not all([has_alone(quotient, 1) for quotient in quotients]):
        return False
    if not has_alone(last, 1) and not has_alone(last, 0):
        return False
    return sum([len(thing) - 1 for thing in quotients + [last]]) <= HIGHEST


def put_together(quotients, last):
    """The polynomial with these divisions, which aren't looked at."""
    one, other = lifted(last), (ONE, [])
    for quotient in reversed(quotients):
        one, other = form_sum(form_times(lifted(quotient), one), other), one
    scale, wholes = form_sum(one, other)
    return lowered(scale, wholes)


def undivided(quotients, last):
    """The polynomial whose divisions these are."""
    if not is_row(quotients, last):
        raise NoRow("these are no divisions")
    return put_together(quotients, last)
