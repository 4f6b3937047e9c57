"""The steep table of a polynomial, and minors of tables."""

from restward.errors import NoPair, NoPolynomial
from restward.numbers import NOUGHT, is_whole
from restward.tables import determinant


def number_at(p, power):
    """The number of p at a power, 0 where p has no such power."""
    return p[power] if 0 <= power < len(p) else NOUGHT


def steep(p):
    """The steep table of p."""
    n = len(p) - 1
    if n < 1:
        raise NoPolynomial("a steep table is of a degree from 1 on")
    return [[number_at(p, n - 1 - 2 * column + row) for column in range(n)] for row in range(n)]


def are_places(thing, many):
    """Whether any thing is a rising tuple of places below so many, one at least."""
    if not isinstance(thing, tuple) or not thing:
        return False
    if not all([is_whole(place) and 0 <= place < many for place in thing]):
        return False
    return all([place < further for place, further in zip(thing, thing[1:])])


def minor(table, rows, columns):
    """The minor of a table by rows and columns, two rising tuples of as many places."""
    many = len(table)
    if not are_places(rows, many) or not are_places(columns, many) or len(rows) != len(columns):
        raise NoPair("these are no rows and columns of a minor")
    return determinant([[table[row][column] for column in columns] for row in rows])


def leads(table):
    """The list of the minors by the first rows and columns, one, two, and on to all."""
    return [determinant([row[:many] for row in table[:many]]) for many in range(1, len(table) + 1)]
