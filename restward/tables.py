"""Tables: lists of n rows, lists of n numbers each."""

from restward.errors import NoBack, NoPair
from restward.numbers import NOUGHT, ONE, fraction, plus
from restward.wholes import cleared, lowered


def unit(n):
    """The unit of n rows."""
    return [[ONE if row == column else NOUGHT for column in range(n)] for row in range(n)]


def check_pair(one, other):
    """Refuses two lists of unlike lengths."""
    if len(one) != len(other):
        raise NoPair("these are of unlike lengths")


def table_sum(table, other):
    """The sum of two tables."""
    check_pair(table, other)
    return [[plus(a, b) for a, b in zip(row, other_row)] for row, other_row in zip(table, other)]


def turned(table):
    """A table with its rows as columns."""
    return [[row[place] for row in table] for place in range(len(table))]


def matched(one, other):
    """The products of two lists of cleared numbers, place by place, added."""
    (wholes, bottom), (other_wholes, other_bottom) = one, other
    return fraction(sum([a * b for a, b in zip(wholes, other_wholes)]), bottom * other_bottom)


def table_times(table, other):
    """The product of two tables."""
    check_pair(table, other)
    rows = [cleared(row) for row in table]
    columns = [cleared(column) for column in turned(other)]
    return [[matched(row, column) for column in columns] for row in rows]


def made_of(table, column):
    """What a table makes of a column."""
    check_pair(table, column)
    whole_column = cleared(column)
    return [matched(cleared(row), whole_column) for row in table]


def worth_at(table, column):
    """The worth of a table at a column."""
    return matched(cleared(made_of(table, column)), cleared(column))


def with_lead(rows, at):
    """Rows with one that isn't 0 in this column at this place; None where none from there on is such.

    What gives way to it is taken times -1, so that the determinant stays.
    """
    for place in range(at, len(rows)):
        if rows[place][at]:
            if place == at:
                return rows
            behind = [-whole for whole in rows[at]]
            return rows[:at] + [rows[place]] + rows[at + 1:place] + [behind] + rows[place + 1:]
    return None


def cleaned(row, chosen, at, before):
    """A row with 0 in this column, by the chosen row; all of it is divided by the number chosen before.

    Each number that comes is a minor of the first rows, and so the division leaves no rest.
    """
    lead, own = chosen[at], row[at]
    return [(lead * whole - own * other) // before for whole, other in zip(row, chosen)]


def eliminated(rows):
    """A tuple (many, divisor, rows): rows of whole numbers, brought by their sums to noughts beside a diagonal.

    The first columns, so many of them, come to the divisor times the unit, and the others come along. The column
    behind the first ones hangs on them. Where these are as many as the rows, the divisor is their determinant.
    """
    divisor = 1
    for at in range(len(rows)):
        led = with_lead(rows, at)
        if led is None:
            return at, divisor, rows
        chosen = led[at]
        rows = [row if place == at else cleaned(row, chosen, at, divisor) for place, row in enumerate(led)]
        divisor = chosen[at]
    return len(rows), divisor, rows


def hanging(rows):
    """Whole numbers, the last one not 0: the first columns, each times its own, added come to noughts.

    They go to the first column that hangs on those ahead of it; there is one where columns are more than rows.
    """
    many, divisor, rows = eliminated(rows)
    return [-row[many] for row in rows[:many]] + [divisor]


def determinant(table):
    """The determinant of a table."""
    rows = []
    bottom = 1
    for row in table:
        wholes, row_bottom = cleared(row)
        rows.append(wholes)
        bottom *= row_bottom
    many, divisor, rows = eliminated(rows)
    return fraction(divisor, bottom) if many == len(table) else NOUGHT


def back_of(table):
    """The table which times this one makes the unit."""
    n = len(table)
    rows = []
    for place, row in enumerate(table):
        wholes, bottom = cleared(row)
        rows.append(wholes + [bottom if place == other else 0 for other in range(n)])
    many, divisor, rows = eliminated(rows)
    if many < n:
        raise NoBack("the determinant is 0")
    return [lowered(fraction(1, divisor), row[n:]) for row in rows]
