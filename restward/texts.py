"""Texts of numbers, polynomials and tables, written and read."""

from restward.errors import NoText
from restward.numbers import NOUGHT, is_number

FIGURES = 30
NUMBERS = 15
ROWS = 7
NONE = "-"
PIECE = 60


def show_whole(whole):
    """A whole number as a text, however great."""
    if whole < 0:
        return "-" + show_whole(-whole)
    # By pieces, as Python itself refuses to write very long numbers.
    size = 10 ** 60
    pieces = []
    while whole >= size:
        whole, rest = divmod(whole, size)
        pieces.append(str(rest).zfill(PIECE))
    return str(whole) + "".join(pieces[::-1])


def show_number(number):
    """A number as a text."""
    top, bottom = number
    return show_whole(top) if bottom == 1 else show_whole(top) + "/" + show_whole(bottom)


def show_numbers(numbers):
    """Numbers as a text, with a blank between."""
    return " ".join([show_number(number) for number in numbers])


def show_poly(p):
    """A polynomial as a text."""
    return show_numbers(p) if p else NONE


def show_table(table):
    """A table as a text."""
    return "; ".join([show_numbers(row) for row in table])


def whole_in(text):
    """The whole number from 0 on that a text is; None where it is none."""
    if not text or len(text) > FIGURES or not all([sign in "0123456789" for sign in text]):
        return None
    return None if text[0] == "0" and text != "0" else int(text)


def number_in(text):
    """The number that a text is; None where it is none."""
    top_text, slash, bottom_text = text.partition("/")
    minus = top_text.startswith("-")
    top = whole_in(top_text[1:] if minus else top_text)
    bottom = whole_in(bottom_text) if slash else 1
    if top is None or bottom is None or minus and top == 0 or slash and bottom == 1:
        return None
    number = (-top if minus else top, bottom)
    return number if is_number(number) else None


def numbers_in(text):
    """The list of numbers that a text is; None where it is none."""
    numbers = [number_in(word) for word in text.split(" ")]
    return None if None in numbers else numbers


def is_square(rows):
    """Whether lists of numbers, or None in their place, are the rows of a table."""
    if len(rows) > ROWS or None in rows:
        return False
    return all([len(row) == len(rows) for row in rows])


def check_text(thing):
    """Refuses any thing that is no text."""
    if not isinstance(thing, str):
        raise NoText("this is no text")


def read_number(text):
    """The number that a text is."""
    check_text(text)
    number = number_in(text)
    if number is None:
        raise NoText("no number is written so")
    return number


def read_poly(text):
    """The polynomial that a text is."""
    check_text(text)
    if text == NONE:
        return []
    numbers = numbers_in(text)
    if numbers is None or len(numbers) > NUMBERS or numbers[-1] == NOUGHT:
        raise NoText("no polynomial is written so")
    return numbers


def read_table(text):
    """The table that a text is."""
    check_text(text)
    rows = [numbers_in(row) for row in text.split("; ")]
    if not is_square(rows):
        raise NoText("no table is written so")
    return rows
