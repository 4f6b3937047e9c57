"""Rows of signs, how many real roots lie in a stretch, and stretches around each of them."""

from restward.errors import NoPolynomial, NoStretch
from restward.numbers import fraction, is_below, is_number, less, over, plus, sign_of_whole
from restward.polys import slope
from restward.wholes import (
    cleared, formed, lifted, lowered, over_content, whole_divided, whole_over, whole_scaled, whole_slope, whole_worth,
)


def sign_row(p):
    """The row of signs of p."""
    if not p:
        raise NoPolynomial("nought has no row of signs")
    row = [lifted(p)]
    further = lifted(slope(p))
    while further[1]:
        scale, wholes = row[-1]
        row.append(further)
        many, quotient, rest = whole_divided(wholes, further[1])
        further = formed(over(scale, (many, 1)), whole_scaled(-1, rest))
    return [lowered(scale, wholes) for scale, wholes in row]


def chain_of(p):
    """The row of signs of p, each but for a factor above 0, and all of it over its last one.

    So it counts the roots of p, each once: it is a row of signs too, of p over its common part with its slope.
    """
    row = [lifted(p)[1]]
    further = over_content(whole_slope(row[0]))
    while further:
        rest = whole_divided(row[-1], further)[2]
        row.append(further)
        further = over_content(whole_scaled(-1, rest))
    return [whole_over(wholes, row[-1]) for wholes in row]


def sign_at(wholes, top, bottom):
    """The sign of a polynomial at top over bottom, the bottom above 0."""
    return sign_of_whole(whole_worth(wholes, top, bottom))


def changes_of(signs):
    """How often the sign changes along a list of signs, 0 being none."""
    changes = 0
    before = 0
    for sign in signs:
        if sign * before < 0:
            changes += 1
        before = sign or before
    return changes


def changes_at(chain, top, bottom):
    """The changes of sign of a chain at top over bottom."""
    return changes_of([sign_at(wholes, top, bottom) for wholes in chain])


def changes_below_all(chain):
    """The changes of sign of a chain below all roots."""
    return changes_of([-wholes[-1] if len(wholes) & 1 == 0 else wholes[-1] for wholes in chain])


def changes_above_all(chain):
    """The changes of sign of a chain above all roots."""
    return changes_of([wholes[-1] for wholes in chain])


def root_count(p, low, high):
    """How many unlike real roots of p lie above low and not above high; None is beyond all."""
    if not p:
        raise NoPolynomial("the roots of nought aren't counted")
    if low is not None and high is not None and not is_below(low, high):
        raise NoStretch("low isn't below high")
    chain = chain_of(p)
    at_low = changes_below_all(chain) if low is None else changes_at(chain, low[0], low[1])
    at_high = changes_above_all(chain) if high is None else changes_at(chain, high[0], high[1])
    return at_low - at_high


def bound_of(wholes):
    """A whole number above all real roots, less than which is below all.

    From this number on, each lower power comes to less than its own part, a half, a quarter and so on, of the highest.
    """
    highest = 0
    for back in range(1, len(wholes)):
        bits = wholes[-1 - back].bit_length() - wholes[-1].bit_length() + 1
        highest = max(highest, -(-bits // back))
    return 2 << highest


def point_within(wholes, low, high, bottom):
    """A tuple (low, point, high, bottom): the ends over a greater bottom, and a point between that is no root."""
    parts = 2
    point = low + high
    while whole_worth(wholes, point, bottom * parts) == 0:
        parts += 1
        point = low * (parts - 1) + high
    return low * parts, point, high * parts, bottom * parts


def stretches_of(p):
    """A rising list of stretches of p, one for each unlike real root."""
    if not p:
        raise NoPolynomial("nought has no stretches")
    chain = chain_of(p)
    bound = bound_of(chain[0])
    found = []
    # The stretches still to be looked at, the lowest one last, each with the changes of sign at its ends.
    ahead = [(-bound, bound, 1, changes_below_all(chain), changes_above_all(chain))]
    while ahead:
        low, high, bottom, at_low, at_high = ahead.pop()
        if at_low - at_high == 1:
            found.append((fraction(low, bottom), fraction(high, bottom)))
        elif at_low - at_high > 1:
            low, point, high, bottom = point_within(chain[0], low, high, bottom)
            at_point = changes_at(chain, point, bottom)
            ahead.append((point, high, bottom, at_point, at_high))
            ahead.append((low, point, bottom, at_low, at_point))
    return found


def is_stretch(chain, thing):
    """Whether any thing is a stretch of the polynomial that this chain is of."""
    if not isinstance(thing, tuple) or len(thing) != 2:
        return False
    low, high = thing
    if not is_number(low) or not is_number(high) or not is_below(low, high):
        return False
    if sign_at(chain[0], low[0], low[1]) == 0 or sign_at(chain[0], high[0], high[1]) == 0:
        return False
    return changes_at(chain, low[0], low[1]) - changes_at(chain, high[0], high[1]) == 1


def around(root, room, hair):
    """A stretch around a root, not as long as hair, nor as the room that there is on either side."""
    width = room if is_below(room, hair) else hair
    half = over(width, (2, 1))
    return (less(root, half), plus(root, half))


def narrowed(p, thing, hair):
    """A stretch within a stretch of p, not longer than hair."""
    if not p:
        raise NoPolynomial("nought has no stretches")
    chain = chain_of(p)
    if not is_stretch(chain, thing):
        raise NoStretch("this is no stretch")
    (low, high), bottom = cleared(thing)
    sign_low = sign_at(chain[0], low, bottom)
    while (high - low) * hair[1] > hair[0] * bottom:
        point = low + high
        low, high, bottom = 2 * low, 2 * high, 2 * bottom
        sign = sign_at(chain[0], point, bottom)
        if sign == 0:
            return around(fraction(point, bottom), fraction(high - point, bottom), hair)
        if sign == sign_low:
            low = point
        else:
            high = point
    return (fraction(low, bottom), fraction(high, bottom))
