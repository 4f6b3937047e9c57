"""Divisions with a rest, common parts, and polynomials parted by how often their roots stand."""

from restward.errors import NoPolynomial
from restward.numbers import ONE, over
from restward.wholes import (
    content_of, form_divided, lifted, lowered, whole_common, whole_divided, whole_less, whole_over, whole_scaled,
    whole_slope, whole_times,
)


def divided(p, q):
    """A tuple (quotient, rest): p is q times the quotient, and the rest added."""
    if not q:
        raise NoPolynomial("nothing is divided by nought")
    (scale, quotient), (rest_scale, rest) = form_divided(lifted(p), lifted(q))
    return (lowered(scale, quotient), lowered(rest_scale, rest))


def last_rest(one, other):
    """A tuple (rest, factor): the last rest that isn't nought; factor times one makes it, but for a multiple of other.

    Rest and factor are kept whole by one common multiple, and brought down by what divides both.
    """
    kept, kept_factor = one, [1]
    rest, factor = other, []
    while rest:
        many, quotient, further = whole_divided(kept, rest)
        further_factor = whole_less(whole_scaled(many, kept_factor), whole_times(quotient, factor))
        content = content_of(further + further_factor)
        kept, kept_factor = rest, factor
        rest = [whole // content for whole in further]
        factor = [whole // content for whole in further_factor]
    return kept, kept_factor


def common(p, q):
    """A tuple (part, one, other): the common part of p and q, which one times p and other times q make."""
    if not p and not q:
        return ([], [], [])
    scale, wholes = lifted(p)
    other_scale, other_wholes = lifted(q)
    rest, factor = last_rest(wholes, other_wholes)
    other_factor = []
    if other_wholes:
        other_factor = whole_over(whole_less(rest, whole_times(factor, wholes)), other_wholes)
    lead = over(ONE, (rest[-1], 1))
    return (lowered(lead, rest), lowered(over(lead, scale), factor), lowered(over(lead, other_scale), other_factor))


def parted(p):
    """The list of tuples (part, k), k rising: p is its lead times all parts, each taken k times."""
    if not p:
        raise NoPolynomial("nought isn't parted")
    wholes = lifted(p)[1]
    incline = whole_slope(wholes)
    shared = whole_common(wholes, incline)
    left = whole_over(wholes, shared)
    along = whole_over(incline, shared)
    parts = []
    often = 0
    while len(left) > 1:
        often += 1
        # What is nought here too are just the roots that stand so often, and no more.
        along = whole_less(along, whole_slope(left))
        part = whole_common(left, along)
        if len(part) > 1:
            parts.append((lowered((1, part[-1]), part), often))
        left = whole_over(left, part)
        along = whole_over(along, part)
    return parts
