"""Polynomials that die, told by rows of numbers above 0, there and back."""

from restward.divisions import HIGHEST, division_forms, put_together
from restward.errors import NoParts, NoPolynomial
from restward.numbers import NOUGHT, is_number
from restward.three import three_by
from restward.wholes import lowered


def parts_of(p):
    """("parts", parts, last) where p dies, else ("not", left, on, right)."""
    if not p:
        raise NoPolynomial("nought has no parts")
    quotients, (last_scale, last) = division_forms(p)
    if len(quotients) < len(p) - 1 or any([wholes[-1] < 0 for scale, wholes in quotients]):
        return ("not",) + three_by(quotients, (last_scale, last))
    parts = [lowered(scale, wholes)[1] for scale, wholes in quotients]
    return ("parts", parts, lowered(last_scale, last)[0])


def are_parts(parts, last):
    """Whether any two things are the parts of a polynomial and its last number."""
    if not isinstance(parts, list) or len(parts) > HIGHEST:
        return False
    if not is_number(last) or last == NOUGHT:
        return False
    return all([is_number(part) and part[0] > 0 for part in parts])


def from_parts(parts, last):
    """The polynomial whose parts and last number these are."""
    if not are_parts(parts, last):
        raise NoParts("these are no parts")
    return put_together([[NOUGHT, part] for part in parts], [last])
