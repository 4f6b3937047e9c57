"""Polynomials: lists of numbers, the one at place i belonging to x to the power i, the last one not 0."""

from restward.numbers import NOUGHT, fraction, is_number, less, over, plus, times
from restward.wholes import form_times, lifted, lowered, whole_worth


def is_polynomial(thing):
    """Whether any thing is a polynomial."""
    if not isinstance(thing, list):
        return False
    if not all([is_number(number) for number in thing]):
        return False
    return not thing or thing[-1] != NOUGHT


def poly(numbers):
    """The polynomial of these numbers."""
    many = len(numbers)
    while many and numbers[many - 1] == NOUGHT:
        many -= 1
    return numbers[:many]


def poly_sum(p, q):
    """The sum of two polynomials."""
    both = [plus(one, other) for one, other in zip(p, q)]
    return poly(both + p[len(both):] + q[len(both):])


def poly_less(p, q):
    """The first polynomial less the second."""
    both = [less(one, other) for one, other in zip(p, q)]
    beyond = [less(NOUGHT, other) for other in q[len(both):]]
    return poly(both + p[len(both):] + beyond)


def poly_times(p, q):
    """The product of two polynomials."""
    scale, wholes = form_times(lifted(p), lifted(q))
    return lowered(scale, wholes)


def scaled(number, p):
    """A multiple of a polynomial."""
    return poly([times(number, one) for one in p])


def slope(p):
    """The slope of a polynomial."""
    return [times((place, 1), p[place]) for place in range(1, len(p))]


def power_of(whole, many):
    """A whole number to a power from 0 on."""
    power = 1
    for at in range(many):
        power *= whole
    return power


def moved(wholes, step):
    """The wholes with x + step in the place of x, step a whole number."""
    result = list(wholes)
    last = len(result) - 1
    for first in range(last):
        for place in range(last - 1, first - 1, -1):
            result[place] += step * result[place + 1]
    return result


def shifted(p, number):
    """A polynomial with x + number in the place of x."""
    top, bottom = number
    scale, wholes = lifted(p)
    degree = len(wholes) - 1
    # In the place of x stands x over the bottom at first, so that the step is a whole number.
    wide = [whole * power_of(bottom, degree - place) for place, whole in enumerate(wholes)]
    back = [whole * power_of(bottom, place) for place, whole in enumerate(moved(wide, top))]
    return lowered(over(scale, (power_of(bottom, degree), 1)), back)


def mirrored(p):
    """A polynomial with -x in the place of x."""
    return [less(NOUGHT, one) if place & 1 else one for place, one in enumerate(p)]


def worth(p, number):
    """The worth of a polynomial at a number."""
    if not p:
        return NOUGHT
    top, bottom = number
    scale, wholes = lifted(p)
    total = whole_worth(wholes, top, bottom)
    return times(scale, fraction(total, power_of(bottom, len(p) - 1)))
