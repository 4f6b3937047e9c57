"""Squares of forms, their signs, and Hermite's form of a polynomial."""

from restward.errors import NoForm, NoPolynomial
from restward.numbers import NOUGHT, common_divisor, fraction, sign_of, times
from restward.tables import cleaned, turned
from restward.wholes import cleared, content_of, lifted, lowered, over_content


def vectors_of(form):
    """For each place a tuple (scale, row): the row is what the form makes of scale times this place, and that itself.

    Numbers are whole in each row by its own scale: one scale for all would be far greater.
    """
    vectors = []
    for place, numbers in enumerate(form):
        wholes, bottom = cleared(numbers)
        vectors.append((bottom, wholes + [bottom if place == other else 0 for other in range(len(form))]))
    return vectors


def mixed(vectors, one, other):
    """The vectors, the one at this place with the other added, both by the same scale."""
    (scale, row), (other_scale, other_row) = vectors[one], vectors[other]
    shared = common_divisor(scale, other_scale)
    factor, other_factor = other_scale // shared, scale // shared
    total = [factor * a + other_factor * b for a, b in zip(row, other_row)]
    both = vectors[:one] + [(factor * scale, total)] + vectors[one + 1:]
    return [(many, line[:one] + [line[one] + line[other]] + line[one + 1:]) for many, line in both]


def with_square(vectors):
    """A tuple (place, vectors): the place of a vector with a square other than 0; None where all products are 0."""
    many = len(vectors)
    for place, (scale, row) in enumerate(vectors):
        if row[place]:
            return place, vectors
    for one, (scale, row) in enumerate(vectors):
        for other in range(one + 1, many):
            # All squares are 0: that of these two, added, is twice their product.
            if row[other]:
                return one, mixed(vectors, one, other)
    return None, vectors


def upright_to(vectors, at, before):
    """The other vectors, each with so much of the one at this place that their product is 0; its column goes."""
    chosen = vectors[at][1]
    found = []
    for place, (scale, row) in enumerate(vectors):
        if place != at:
            line = cleaned(row, chosen, at, before)
            found.append((scale, line[:at] + line[at + 1:]))
    return found


def squared(vectors):
    """A list of tuples (column, number): vectors, any two of them with the product 0, and their squares."""
    found = []
    before = 1
    at, vectors = with_square(vectors)
    while at is not None:
        scale, row = vectors[at]
        column = row[len(vectors):]
        content = content_of(column)
        # The vector is its own place, times the scale and the number before, and some of those that are gone.
        square = fraction(before * scale * row[at], content * content)
        found.append(([whole // content for whole in column], square))
        vectors = upright_to(vectors, at, before)
        before = row[at]
        at, vectors = with_square(vectors)
    return found + [(over_content(row[len(vectors):]), NOUGHT) for scale, row in vectors]


def squares(table):
    """A tuple (T, numbers): T turned times the form times T has the numbers on its diagonal, and 0 beside."""
    if table != turned(table):
        raise NoForm("this table is no form")
    found = squared(vectors_of(table))
    rows = [[(column[place], 1) for column, square in found] for place in range(len(table))]
    return (rows, [square for column, square in found])


def signs(table):
    """The tuple of how many squares of a form are above 0, below 0, and 0."""
    found = [sign_of(square) for square in squares(table)[1]]
    return (found.count(1), found.count(-1), found.count(0))


def hermite(p):
    """Hermite's form of p."""
    if len(p) < 2:
        raise NoPolynomial("Hermite's form is of a degree from 1 on")
    scale, wholes = lifted(p)
    n = len(p) - 1
    factor = times((2, 1), times(scale, scale))
    form = []
    above = [0] * (n + 1)
    for row in range(n):
        # x + y times the form has at each place what stands above and ahead in the form, added.
        product = [wholes[row] * wholes[place] if (row + place) & 1 else 0 for place in range(1, n + 1)]
        above = [one - other for one, other in zip(product, above[1:])] + [0]
        form.append(lowered(factor, above[:n]))
    return form
