"""From the upright axis to the circle and back: polynomials ticked and unticked, and the circle's numbers."""

from restward.errors import NoDegree, NoPolynomial
from restward.numbers import over
from restward.polys import power_of
from restward.three import three
from restward.wholes import lifted, lowered, whole_scaled, whole_sum, whole_times

HIGHEST = 7


def exchanged(wholes, n, above, below):
    """What below to the power n, times a polynomial of above over below, is."""
    total = []
    power = [1]
    for whole in reversed(wholes + [0] * (n + 1 - len(wholes))):
        total = whole_sum(whole_times(total, above), whole_scaled(whole, power))
        power = whole_times(power, below)
    return total


def ticked(p):
    """What x + 1 to the power of its degree, times p of (x - 1) / (x + 1), is."""
    if not p:
        raise NoPolynomial("nought isn't ticked")
    scale, wholes = lifted(p)
    return lowered(scale, exchanged(wholes, len(p) - 1, [-1, 1], [1, 1]))


def whole_unticked(wholes, n):
    """What 1 - x to the power n, times a polynomial of (1 + x) / (1 - x), is."""
    return exchanged(wholes, n, [1, 1], [1, -1])


def unticked(q, n):
    """What 1 - x to the power n, times q of (1 + x) / (1 - x), is, all over 2 to the power n."""
    if not q:
        raise NoPolynomial("nought isn't unticked")
    if n < len(q) - 1 or n > HIGHEST:
        raise NoDegree("unticked is by a number from the degree on to 7")
    scale, wholes = lifted(q)
    return lowered(over(scale, (power_of(2, n), 1)), whole_unticked(wholes, n))


def circle(q):
    """The tuple (within, on, beyond) of how many roots of q lie there by the circle, each as often as it stands."""
    if not q:
        raise NoPolynomial("nought has no circle's numbers")
    wholes = whole_unticked(lifted(q)[1], len(q) - 1)
    within, on, beyond = three([(whole, 1) for whole in wholes])
    # What is gone from the degree are the roots at -1.
    return (within, on + len(q) - len(wholes), beyond)
