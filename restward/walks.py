"""The form of a table that falls tick by tick, walks, and turns between ticks and flows."""

from restward.flows import form_told, order_of, said_by
from restward.numbers import NOUGHT, less
from restward.tables import back_of, check_pair, made_of, table_sum, table_times, turned, unit
from restward.wholes import cleared


def tick_row(columns, order, one, other):
    """What "A turned times X times A, less X, and the unit, added" has in one row and another column, as wholes.

    Columns are those of A, cleared. First stand those that belong to the numbers of X by their order, then the unit's.
    """
    (wholes, bottom), (other_wholes, other_bottom) = columns[one], columns[other]
    n = len(columns)
    line = [0] * (n * (n + 1) // 2)
    for row, whole in enumerate(wholes):
        for column, other_whole in enumerate(other_wholes):
            line[order[(row, column)]] += whole * other_whole
    line[order[(one, other)]] -= bottom * other_bottom
    return line + [bottom * other_bottom if one == other else 0]


def tick_form(table):
    """("form", P), the one form that falls by the unit at each tick; ("kept", X) where some form stays."""
    n = len(table)
    order = order_of(n)
    columns = [cleared(column) for column in turned(table)]
    lines = [tick_row(columns, order, one, other) for one in range(n) for other in range(one, n)]
    return form_told(order, n, lines)


def tick_said(table):
    """Whether all ways of a table die by ticks: ("dies", P), ("grows", P, x) or ("kept", X)."""
    return said_by(tick_form(table))


def walk(table, column, n):
    """The list of a column and of what it becomes at each of n ticks."""
    check_pair(table, column)
    way = [list(column)]
    for tick in range(n):
        way.append(made_of(table, way[-1]))
    return way


def opposite(table):
    """A table times -1."""
    return [[less(NOUGHT, number) for number in row] for row in table]


def turn_of(table):
    """The unit and the table, added, times the back of the unit less the table."""
    one = unit(len(table))
    return table_times(table_sum(one, table), back_of(table_sum(one, opposite(table))))


def turn_back(table):
    """The table less the unit, times the back of the table and the unit, added."""
    one = unit(len(table))
    return table_times(table_sum(table, opposite(one)), back_of(table_sum(table, one)))
