"""Numbers: tuples (top, bottom) of whole numbers in lowest terms, the bottom from 1 on."""

from restward.errors import NoFraction

NOUGHT = (0, 1)
ONE = (1, 1)
# Both in bits: below the first, plain steps of Euclid's way are the quicker ones.
SHORT = 6000
HEAD = 128


def head_steps(one, other):
    """A tuple (a, b, c, d): the steps that Euclid's way surely takes whatever stands behind these two heads.

    They lead from two numbers u, v that begin so to a u + b v and c u + d v; b is 0 where no step is sure.
    """
    a, b, c, d = 1, 0, 0, 1
    while other + c and other + d:
        quotient = (one + a) // (other + c)
        if quotient != (one + b) // (other + d):
            break
        a, b, c, d = c, d, a - quotient * c, b - quotient * d
        one, other = other, one - quotient * other
    return a, b, c, d


def shortened(one, other):
    """Two whole numbers with the same common divisor, the second one short: Euclid's way, many steps at once.

    Great numbers are too dear to be divided at each step, so the steps are taken from their heads.
    """
    one, other = max(abs(one), abs(other)), min(abs(one), abs(other))
    while other.bit_length() > SHORT:
        behind = one.bit_length() - HEAD
        a, b, c, d = head_steps(one >> behind, other >> behind)
        if b == 0:
            one, other = other, one % other
        else:
            one, other = a * one + b * other, c * one + d * other
    return one, other


def common_divisor(one, other):
    """The greatest whole number that divides both, from 0 on; 0 where both are 0."""
    if other.bit_length() > SHORT and one.bit_length() > SHORT:
        one, other = shortened(one, other)
    while other:
        one, other = other, one % other
    return abs(one)


def is_whole(thing):
    """Whether any thing is a whole number."""
    return isinstance(thing, int) and not isinstance(thing, bool)


def is_number(thing):
    """Whether any thing is a number."""
    if not isinstance(thing, tuple) or len(thing) != 2:
        return False
    top, bottom = thing
    if not is_whole(top) or not is_whole(bottom) or bottom < 1:
        return False
    return common_divisor(top, bottom) == 1


def fraction(top, bottom):
    """The number that the first whole number is over the second."""
    if bottom == 0:
        raise NoFraction("no number stands over 0")
    shared = common_divisor(top, bottom)
    if bottom < 0:
        shared = -shared
    return (top // shared, bottom // shared)


def plus(one, other):
    """The sum of two numbers."""
    one_top, one_bottom = one
    other_top, other_bottom = other
    shared = common_divisor(one_bottom, other_bottom)
    # Only what both bottoms share can be left over above and below, so the search for it stays small.
    rest = one_bottom // shared
    top = one_top * (other_bottom // shared) + other_top * rest
    again = common_divisor(top, shared)
    return (top // again, rest * (other_bottom // again))


def less(one, other):
    """The first number less the second."""
    top, bottom = other
    return plus(one, (-top, bottom))


def times(one, other):
    """The product of two numbers."""
    one_top, one_bottom = one
    other_top, other_bottom = other
    # Each number is in lowest terms, so a common divisor stands crosswise alone.
    first = common_divisor(one_top, other_bottom)
    second = common_divisor(other_top, one_bottom)
    top = (one_top // first) * (other_top // second)
    return (top, (one_bottom // second) * (other_bottom // first))


def over(one, other):
    """The first number over the second."""
    top, bottom = other
    if top == 0:
        raise NoFraction("no number stands over 0")
    if top < 0:
        return times(one, (-bottom, -top))
    return times(one, (bottom, top))


def middle(one, other):
    """The number halfway between two numbers."""
    return times(plus(one, other), (1, 2))


def sign_of_whole(whole):
    """1, 0 or -1, as a whole number is above, at or below 0."""
    if whole > 0:
        return 1
    return -1 if whole < 0 else 0


def sign_of(number):
    """1, 0 or -1, as a number is above, at or below 0."""
    return sign_of_whole(number[0])


def is_below(one, other):
    """Whether the first number is below the second."""
    return one[0] * other[1] < other[0] * one[1]
