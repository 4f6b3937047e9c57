"""Polynomials by whole numbers: what the others reckon with, so that few common divisors are sought.

Wholes are a list of whole numbers, the one at place i belonging to x to the power i, the last one not 0.
A form is a tuple (scale, wholes): a number above 0, times wholes that no number above 1 divides.
"""

from restward.numbers import ONE, common_divisor, over, times

# In bits: below it, a search for each number is quicker than one for all.
LONG = 1000


def content_of(wholes):
    """The greatest whole number that divides all of these; 0 where all are 0."""
    content = 0
    for whole in wholes:
        content = common_divisor(whole, content)
        if content == 1:
            return 1
    return content


def trimmed(wholes):
    """These, the noughts at the end left out."""
    many = len(wholes)
    while many and wholes[many - 1] == 0:
        many -= 1
    return wholes[:many]


def over_content(wholes):
    """These over the greatest whole number that divides all of them."""
    content = content_of(wholes)
    if content < 2:
        return list(wholes)
    return [whole // content for whole in wholes]


def cleared(numbers):
    """A tuple (wholes, bottom): these numbers are the wholes over the one bottom."""
    bottom = 1
    for number in numbers:
        bottom = bottom // common_divisor(bottom, number[1]) * number[1]
    return [top * (bottom // under) for top, under in numbers], bottom


def lifted(p):
    """The form of a polynomial."""
    wholes, bottom = cleared(p)
    if not wholes:
        return (ONE, [])
    # Cleared from lowest terms, the content shares no divisor with the bottom.
    content = content_of(wholes)
    return ((content, bottom), [whole // content for whole in wholes])


def divisor_for_all(wholes, bottom):
    """A divisor of the bottom with which each of these, but 0, shares just what it shares with the bottom.

    Their product shares all of that with the bottom: one great search and many small ones do in the place of many
    great ones. It is worth its while only where the bottom is long, and not far longer than these.
    """
    longest = max([whole.bit_length() for whole in wholes], default=0)
    if bottom.bit_length() < LONG or bottom.bit_length() > 2 * longest:
        return bottom
    product = 1
    for whole in wholes:
        if whole:
            product = product * whole % bottom
    return common_divisor(bottom, product)


def lowered(scale, wholes):
    """The list of the numbers that a number other than 0, times these wholes, is."""
    top, bottom = scale
    divisor = divisor_for_all(wholes, bottom)
    numbers = []
    for whole in wholes:
        shared = common_divisor(divisor, whole) if whole else bottom
        numbers.append((whole // shared * top, bottom // shared))
    return numbers


def whole_sum(one, other):
    """The sum of two polynomials by wholes."""
    if len(one) < len(other):
        one, other = other, one
    total = list(one)
    for place, whole in enumerate(other):
        total[place] += whole
    return trimmed(total)


def whole_scaled(factor, wholes):
    """A multiple by a whole number."""
    return trimmed([factor * whole for whole in wholes])


def whole_less(one, other):
    """The first polynomial by wholes less the second."""
    return whole_sum(one, whole_scaled(-1, other))


def whole_times(one, other):
    """The product of two polynomials by wholes."""
    if not one or not other:
        return []
    product = [0] * (len(one) + len(other) - 1)
    for place, whole in enumerate(one):
        for further, factor in enumerate(other):
            product[place + further] += whole * factor
    return product


def whole_slope(wholes):
    """The slope of a polynomial by wholes."""
    return [place * wholes[place] for place in range(1, len(wholes))]


def whole_worth(wholes, top, bottom):
    """The worth at top over bottom, times the bottom as often as the degree tells."""
    total = 0
    power = 1
    for whole in reversed(wholes):
        total = total * top + whole * power
        power *= bottom
    return total


def whole_divided(one, other):
    """A tuple (many, quotient, rest): many, from 1 on, times one is the quotient times other, the rest added."""
    lead = other[-1]
    many = 1
    quotient = [0] * max(0, len(one) - len(other) + 1)
    rest = list(one)
    while len(rest) >= len(other):
        part = rest[-1]
        place = len(rest) - len(other)
        if part % lead == 0:
            part = part // lead
        else:
            factor = abs(lead)
            part = part if lead > 0 else -part
            many *= factor
            quotient = [factor * whole for whole in quotient]
            rest = [factor * whole for whole in rest]
        quotient[place] = part
        for further, whole in enumerate(other):
            rest[place + further] -= part * whole
        rest = trimmed(rest)
    return (many, quotient, rest)


def whole_over(one, other):
    """One over another one that has no content and divides it."""
    return whole_divided(one, other)[1]


def whole_common(one, other):
    """The common part of two polynomials by wholes, without content, its lead above 0."""
    while other:
        one, other = other, over_content(whole_divided(one, other)[2])
    if one and one[-1] < 0:
        one = whole_scaled(-1, one)
    return over_content(one)


def formed(scale, wholes):
    """The form of a number above 0 times these wholes."""
    if not wholes:
        return (ONE, [])
    content = content_of(wholes)
    return (times(scale, (content, 1)), [whole // content for whole in wholes])


def form_sum(one, other):
    """The sum of two forms."""
    if not one[1] or not other[1]:
        return one if one[1] else other
    top, bottom = over(other[0], one[0])
    wholes = whole_sum(whole_scaled(bottom, one[1]), whole_scaled(top, other[1]))
    return formed(over(one[0], (bottom, 1)), wholes)


def form_times(one, other):
    """The product of two forms: without content too, as each of them is."""
    return (times(one[0], other[0]), whole_times(one[1], other[1]))


def form_divided(one, other):
    """A tuple (quotient, rest), by which one form is divided by another one.

    The rest is a form; the quotient is a number above 0 and wholes likewise, but these may have a content.
    """
    many, quotient, rest = whole_divided(one[1], other[1])
    scale = over(one[0], (many, 1))
    return (over(scale, other[0]), quotient), formed(scale, rest)
