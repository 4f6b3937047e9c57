"""Polynomials with all roots within the circle, told by rows of numbers between -1 and 1, there and back."""

from restward.divisions import HIGHEST
from restward.errors import NoPolynomial, NoSteps
from restward.numbers import NOUGHT, ONE, fraction, is_number, over, times
from restward.ticks import circle
from restward.wholes import formed, lifted, lowered


def steps_back(wholes):
    """The steps that lead to a polynomial by wholes, the last one first; None where not all roots lie within."""
    found = []
    divisor = further = 1
    while len(wholes) > 1:
        first, lead = wholes[0], wholes[-1]
        if abs(first) >= abs(lead):
            return None
        found.append(fraction(first, lead))
        # As in an elimination, the lead of the polynomial before, but for the very first one, divides all that comes:
        # without this the numbers would grow twice as long at each step.
        wholes = [(lead * one - first * other) // divisor for one, other in zip(wholes[1:], wholes[-2::-1])]
        divisor, further = further, wholes[-1]
    return found


def steps_of(p):
    """("steps", numbers, last) where all roots of p lie within, else ("not", within, on, beyond)."""
    if not p:
        raise NoPolynomial("nought has no steps")
    found = steps_back(lifted(p)[1])
    if found is None:
        return ("not",) + circle(p)
    return ("steps", found[::-1], p[-1])


def are_steps(numbers, last):
    """Whether any two things are the steps of a polynomial and its last number."""
    if not isinstance(numbers, list) or len(numbers) > HIGHEST:
        return False
    if not is_number(last) or last == NOUGHT:
        return False
    return all([is_number(number) and abs(number[0]) < number[1] for number in numbers])


def from_steps(numbers, last):
    """The polynomial whose steps and last number these are."""
    if not are_steps(numbers, last):
        raise NoSteps("these are no steps")
    scale, wholes = ONE, [1]
    for top, bottom in numbers:
        both = [bottom * one + top * other for one, other in zip([0] + wholes, wholes[::-1] + [0])]
        scale, wholes = formed(over(scale, (bottom, 1)), both)
    return lowered(times(last, scale), wholes)
