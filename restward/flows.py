"""Tables and their polynomials, and the form of a table that falls along its flow."""

from restward.errors import NoPolynomial
from restward.numbers import NOUGHT, ONE, common_divisor, fraction, less, over
from restward.polys import power_of
from restward.squares import squares
from restward.tables import hanging, turned
from restward.wholes import cleared, lifted, lowered, over_content

# Tables are made of polynomials to this degree alone.
HIGHEST = 4


def whole_rows(table):
    """A tuple (rows, bottom): the table is these rows of whole numbers over the one bottom."""
    n = len(table)
    wholes, bottom = cleared([number for row in table for number in row])
    return [wholes[n * place:n * place + n] for place in range(n)], bottom


def rows_times(one, other):
    """The product of two tables of whole numbers."""
    columns = turned(other)
    return [[sum([a * b for a, b in zip(row, column)]) for column in columns] for row in one]


def with_unit(rows, whole):
    """A table of whole numbers, and a whole number times the unit, added."""
    return [[entry + whole if at == place else entry for place, entry in enumerate(row)]
            for at, row in enumerate(rows)]


def table_poly(table):
    """The polynomial of a table."""
    n = len(table)
    rows, bottom = whole_rows(table)
    product = [[0] * n for row in rows]
    whole = power = 1
    numbers = [ONE]
    for many in range(1, n + 1):
        product = rows_times(rows, with_unit(product, whole))
        # By Newton's sums of the roots' powers this division leaves no rest.
        whole = -sum([row[place] for place, row in enumerate(product)]) // many
        power *= bottom
        numbers.append(fraction(whole, power))
    return numbers[::-1]


def poly_table(p):
    """The table of p."""
    n = len(p) - 1
    if n < 1 or n > HIGHEST:
        raise NoPolynomial("a table is made of a degree from 1 to 4")
    rows = [[ONE if column == row + 1 else NOUGHT for column in range(n)] for row in range(n - 1)]
    return rows + [[over(less(NOUGHT, number), p[n]) for number in p[:n]]]


def worth_by(p, table):
    """The worth of p at a table."""
    rows, bottom = whole_rows(table)
    scale, wholes = lifted(p)
    total = [[0] * len(rows) for row in rows]
    power = 1
    for whole in reversed(wholes):
        total = with_unit(rows_times(total, rows), whole * power)
        power *= bottom
    factor = over(scale, (power_of(bottom, len(p) - 1), 1))
    return [lowered(factor, row) for row in total]


def order_of(n):
    """A dict: for each row and column of a form the place of its number among the unlike ones."""
    order = {}
    many = 0
    for row in range(n):
        for column in range(row, n):
            order[(row, column)] = order[(column, row)] = many
            many += 1
    return order


def flow_row(columns, order, one, other):
    """What "A turned times X, and X times A, and the unit, added" has in one row and another column, as whole numbers.

    Columns are those of A, cleared. First stand those that belong to the numbers of X by their order, then the unit's.
    """
    (wholes, bottom), (other_wholes, other_bottom) = columns[one], columns[other]
    shared = common_divisor(bottom, other_bottom)
    n = len(columns)
    line = [0] * (n * (n + 1) // 2)
    for place in range(n):
        line[order[(place, other)]] += wholes[place] * (other_bottom // shared)
        line[order[(one, place)]] += other_wholes[place] * (bottom // shared)
    return line + [bottom if one == other else 0]


def form_told(order, n, lines):
    """("form", P) or ("kept", X) of n rows: what makes noughts of all lines, with what stands behind or without it."""
    many = len(lines)
    found = hanging(lines)
    if len(found) > many:
        word = "form"
        numbers = lowered(fraction(1, found[many]), found[:many])
    else:
        word = "kept"
        numbers = [(whole, 1) for whole in over_content(found)] + [NOUGHT] * (many - len(found))
    return (word, [[numbers[order[(row, column)]] for column in range(n)] for row in range(n)])


def flow_form(table):
    """("form", P), the one form that falls by the unit along the flow; ("kept", X) where some form stays along it."""
    n = len(table)
    order = order_of(n)
    columns = [cleared(column) for column in turned(table)]
    lines = [flow_row(columns, order, one, other) for one in range(n) for other in range(one, n)]
    return form_told(order, n, lines)


def column_below(lead, numbers):
    """A column at which the form with these squares has a worth below 0; None where it has none."""
    for place, number in enumerate(numbers):
        if number[0] < 0:
            return [row[place] for row in lead]
    return None


def said_by(told):
    """("dies", P), ("grows", P, x) or ("kept", X), by what was told of a form."""
    word, form = told
    if word == "kept":
        return told
    lead, numbers = squares(form)
    column = column_below(lead, numbers)
    return ("dies", form) if column is None else ("grows", form, column)


def flow_said(table):
    """Whether all ways of a table die by its flow: ("dies", P), ("grows", P, x) or ("kept", X)."""
    return said_by(flow_form(table))
