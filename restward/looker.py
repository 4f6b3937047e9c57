"""The looker at papers: it looks for nothing, but adds and multiplies."""

from restward.between import halves
from restward.boxes import corners_of, is_box
from restward.flows import rows_times, whole_rows
from restward.numbers import NOUGHT, is_below, is_number
from restward.parts import are_parts, from_parts
from restward.polys import is_polynomial
from restward.squares import hermite
from restward.stretches import sign_at
from restward.steps import are_steps, from_steps
from restward.tables import determinant, turned
from restward.wholes import cleared, lifted

DEGREE = 7
ROWS = 4
CORNERS = 4
TICK = "tick "


def is_poly(thing, lowest):
    """Whether any thing is a polynomial of a degree from the lowest one on to 7."""
    return is_polynomial(thing) and lowest <= len(thing) - 1 <= DEGREE


def are_numbers(thing, many):
    """Whether any thing is a list of so many numbers."""
    if not isinstance(thing, list) or len(thing) != many:
        return False
    return all([is_number(number) for number in thing])


def is_table(thing, n):
    """Whether any thing is a table of n rows."""
    if not isinstance(thing, list) or len(thing) != n:
        return False
    return all([are_numbers(row, n) for row in thing])


def is_led(thing, form):
    """Whether any two things are a table of at most 4 rows and a form of as many."""
    if not isinstance(thing, list) or not 1 <= len(thing) <= ROWS:
        return False
    n = len(thing)
    return is_table(thing, n) and is_table(form, n) and turned(form) == form


def product_of(one, other):
    """The products of two lists of whole numbers, place by place, added."""
    return sum([a * b for a, b in zip(one, other)])


def on_diagonal(form, lead, numbers):
    """Whether lead turned times the form times lead has these numbers on its diagonal, and 0 beside."""
    rows, bottom = whole_rows(form)
    columns = [cleared(column) for column in turned(lead)]
    for place, (wholes, under) in enumerate(columns):
        led = [product_of(row, wholes) for row in rows]
        if any([product_of(led, other) != 0 for other, other_under in columns[place + 1:]]):
            return False
        top, number_bottom = numbers[place]
        if product_of(led, wholes) * number_bottom != top * bottom * under * under:
            return False
    return True


def are_squares(form, lead, numbers):
    """Whether any two things are squares of a form."""
    if not is_table(lead, len(form)) or not are_numbers(numbers, len(form)):
        return False
    if not on_diagonal(form, lead, numbers):
        return False
    # With 0 nowhere on the diagonal, the determinants that make that product aren't 0 either.
    return NOUGHT not in numbers or determinant(lead) != NOUGHT


def flow_change(table, form):
    """A tuple (rows, bottom): the table turned times the form, and the form times the table, added."""
    rows, bottom = whole_rows(table)
    form_rows, form_bottom = whole_rows(form)
    behind = rows_times(form_rows, rows)
    # The form turned is itself: so what stands ahead is what stands behind, turned.
    total = [[a + b for a, b in zip(row, other)] for row, other in zip(behind, turned(behind))]
    return total, bottom * form_bottom


def tick_change(table, form):
    """A tuple (rows, bottom): the table turned times the form times the table, less the form."""
    rows, bottom = whole_rows(table)
    form_rows, form_bottom = whole_rows(form)
    under = bottom * bottom
    led = rows_times(turned(rows), rows_times(form_rows, rows))
    total = [[a - under * b for a, b in zip(row, other)] for row, other in zip(led, form_rows)]
    return total, under * form_bottom


def changes_by(word, table, form, times):
    """Whether the form changes by so many times the unit: along the flow, or at each tick as the word tells."""
    rows, bottom = tick_change(table, form) if word.startswith(TICK) else flow_change(table, form)
    for at, row in enumerate(rows):
        for place, whole in enumerate(row):
            if whole != (times * bottom if at == place else 0):
                return False
    return True


def are_parts_of(p, parts, last):
    """Whether any two things are the parts of p and its last number."""
    return are_parts(parts, last) and from_parts(parts, last) == p


def look_at_dies(paper):
    """Whether a paper "dies" is so."""
    word, p, parts, last = paper
    return is_poly(p, 0) and are_parts_of(p, parts, last)


def look_at_signs(paper):
    """Whether a paper "signs" is so."""
    word, p, lead, numbers = paper
    return is_poly(p, 1) and are_squares(hermite(p), lead, numbers)


def sign_by(half, number):
    """The sign of a half of a polynomial at a number."""
    return sign_at(lifted(half)[1], number[0], number[1])


def look_at_between(paper):
    """Whether a paper "between" is so."""
    word, p, points = paper
    if not is_poly(p, 1) or not are_numbers(points, len(p) - 1) or points[0] != NOUGHT:
        return False
    sides = halves(p)
    if sign_by(sides[0], NOUGHT) * sign_by(sides[1], NOUGHT) != 1:
        return False
    for place, further in enumerate(points[1:]):
        half = sides[place & 1]
        if not is_below(further, points[place]) or sign_by(half, points[place]) * sign_by(half, further) != -1:
            return False
    return True


def look_at_falls(paper):
    """Whether a paper "falls" or "tick falls" is so."""
    word, table, form, lead, numbers = paper
    if not is_led(table, form) or not changes_by(word, table, form, -1):
        return False
    return are_squares(form, lead, numbers) and all([number[0] > 0 for number in numbers])


def look_at_grows(paper):
    """Whether a paper "grows" or "tick grows" is so."""
    word, table, form, column = paper
    if not is_led(table, form) or not are_numbers(column, len(table)) or not changes_by(word, table, form, -1):
        return False
    rows, bottom = whole_rows(form)
    wholes, under = cleared(column)
    return product_of([product_of(row, wholes) for row in rows], wholes) < 0


def look_at_kept(paper):
    """Whether a paper "kept" or "tick kept" is so."""
    word, table, form = paper
    if not is_led(table, form) or not any([number != NOUGHT for row in form for number in row]):
        return False
    return changes_by(word, table, form, 0)


def look_at_steps(paper):
    """Whether a paper "steps" is so."""
    word, p, numbers, last = paper
    return is_poly(p, 0) and are_steps(numbers, last) and from_steps(numbers, last) == p


def is_row_of(p, thing):
    """Whether any thing is the tuple (parts, last) of p."""
    return isinstance(thing, tuple) and len(thing) == 2 and are_parts_of(p, thing[0], thing[1])


def look_at_box(paper):
    """Whether a paper "box" is so."""
    word, box, rows = paper
    if not is_box(box) or not isinstance(rows, list) or len(rows) != CORNERS:
        return False
    return all([is_row_of(corner, row) for corner, row in zip(corners_of(box), rows)])


SIZES = {
    "dies": 4, "signs": 4, "between": 3, "falls": 5, "grows": 4, "kept": 3, "tick falls": 5, "tick grows": 4,
    "tick kept": 3, "steps": 4, "box": 3,
}
LOOKS = {
    "dies": look_at_dies, "signs": look_at_signs, "between": look_at_between, "falls": look_at_falls,
    "grows": look_at_grows, "kept": look_at_kept, "tick falls": look_at_falls, "tick grows": look_at_grows,
    "tick kept": look_at_kept, "steps": look_at_steps, "box": look_at_box,
}


def holds(paper):
    """Whether any thing is a paper, and all of it is so."""
    if not isinstance(paper, tuple) or not paper or not isinstance(paper[0], str):
        return False
    word = paper[0]
    if word not in SIZES or len(paper) != SIZES[word]:
        return False
    look = LOOKS[word]
    return look(paper)
