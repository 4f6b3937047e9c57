"""How many roots lie left of the upright axis, on it, and right of it."""

from restward.commons import parted
from restward.divisions import division_forms
from restward.errors import NoPolynomial
from restward.numbers import NOUGHT
from restward.stretches import root_count
from restward.wholes import lifted


def left_by(wholes):
    """How many of the roots that a quotient stands for lie left."""
    half = (len(wholes) - 2) // 2
    lead = -wholes[-1] if half & 1 else wholes[-1]
    return half + 1 if lead > 0 else half


def on_axis(wholes):
    """How many roots lie on the axis, of a polynomial with odd powers alone or even ones alone."""
    lowest = 0
    while wholes[lowest] == 0:
        lowest += 1
    squares = [(whole, 1) for whole in wholes[lowest::2]]
    pairs = sum([often * root_count(part, None, NOUGHT) for part, often in parted(squares)])
    return lowest + 2 * pairs


def three_by(quotients, last):
    """The three numbers of the polynomial with these divisions, each a number above 0 and wholes."""
    on = on_axis(last[1])
    left = right = (len(last[1]) - 1 - on) // 2
    for scale, wholes in quotients:
        left += left_by(wholes)
        right += len(wholes) - 1 - left_by(wholes)
    return (left, on, right)


def three(p):
    """The tuple (left, on, right) of how many roots of p lie there, each as often as it stands."""
    if not p:
        raise NoPolynomial("nought has no three numbers")
    quotients, last = division_forms(p)
    return three_by(quotients, last)


def row_behind(row, further, divisor):
    """The row behind two of the steep table's rows, each brought to a diagonal by those ahead of it.

    Each number that comes is a minor of that table, and so the division leaves no rest.
    """
    lead, own = further[0], row[0]
    beside = further[1:] + [0] * (len(row) - len(further))
    return [(lead * whole - own * other) // divisor for whole, other in zip(row[1:], beside)]


def whole_dies(wholes):
    """Whether all roots of a polynomial by wholes, not nought, lie left: whether all leads of its steep table agree.

    It ends where the first one doesn't, and seeks no divisors: so it is by far quicker than the three numbers.
    """
    if wholes[-1] < 0:
        wholes = [-whole for whole in wholes]
    if min(wholes) <= 0:
        return False
    row, further = wholes[::-2], wholes[-2::-2]
    divisor = ahead = 1
    while further:
        lead = further[0]
        if lead <= 0:
            return False
        row, further = further, row_behind(row, further, divisor)
        divisor, ahead = ahead, lead
    return True


def dies(p):
    """Whether all roots of p lie left."""
    return bool(p) and whole_dies(lifted(p)[1])
