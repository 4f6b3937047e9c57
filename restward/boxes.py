"""Boxes of polynomials: whether all within die, told by four corners, and how far a box may be widened."""

from restward.errors import NoBox
from restward.numbers import NOUGHT, is_below, is_number, less, middle, plus
from restward.parts import parts_of
from restward.three import dies

LEAST = 2
MOST = 8
# Of each corner, at the places 0 to 3 and so on by fours, whether the low (0) or the high (1) stands there.
SIDES = ((0, 0, 1, 1), (1, 1, 0, 0), (0, 1, 1, 0), (1, 0, 0, 1))


def is_span(thing):
    """Whether any thing is a tuple (low, high) of numbers, low not above high."""
    if not isinstance(thing, tuple) or len(thing) != 2:
        return False
    low, high = thing
    return is_number(low) and is_number(high) and not is_below(high, low)


def is_box(thing):
    """Whether any thing is a box."""
    if not isinstance(thing, list) or len(thing) < LEAST or len(thing) > MOST:
        return False
    return all([is_span(span) for span in thing]) and is_below(NOUGHT, thing[-1][0])


def check_box(thing):
    """Refuses any thing that is no box."""
    if not is_box(thing):
        raise NoBox("this is no box")


def within(box, p):
    """Whether a polynomial is within a box."""
    check_box(box)
    if len(p) != len(box):
        return False
    return not any([is_below(number, low) or is_below(high, number) for number, (low, high) in zip(p, box)])


def corners_of(box):
    """The four corners of what is known to be a box."""
    return [[span[sides[place & 3]] for place, span in enumerate(box)] for sides in SIDES]


def corners(box):
    """The four corners of a box."""
    check_box(box)
    return corners_of(box)


def box_said(box):
    """("all", rows) by the four corners' parts where all die, else ("not", p, left, on, right) of the first."""
    rows = []
    for corner in corners(box):
        told = parts_of(corner)
        if told[0] == "not":
            return ("not", corner) + told[1:]
        rows.append(told[1:])
    return ("all", rows)


def grown(box, number):
    """A box with each low less by a number, each high more by it, perhaps none any more."""
    return [(less(low, number), plus(high, number)) for low, high in box]


def widened(box, number):
    """A box widened by a number from 0 on."""
    check_box(box)
    wide = grown(box, number)
    check_box(wide)
    return wide


def all_die(box):
    """Whether all polynomials within what is known to be a box die."""
    for corner in corners_of(box):
        if not dies(corner):
            return False
    return True


def room_of(box, hair):
    """A tuple (low, high), not further apart than hair: widened by low all die, by high not; None where some don't."""
    check_box(box)
    if not all_die(box):
        return None
    # Widened by its last low it is no box any more.
    low, high = NOUGHT, box[-1][0]
    while is_below(hair, less(high, low)):
        point = middle(low, high)
        if all_die(grown(box, point)):
            low = point
        else:
            high = point
    return (low, high)
