"""A desk that keeps polynomials and tables by names, is told rows, and answers with texts."""

from restward.errors import NoDeed, NoLine, NoName, NoText
from restward.flows import flow_said, table_poly
from restward.lines import line_of
from restward.parts import parts_of
from restward.polys import mirrored, shifted
from restward.texts import read_number, read_poly, read_table, show_numbers, show_poly, show_table
from restward.three import three
from restward.ticks import circle
from restward.walks import tick_said

DEGREE = 7
ROWS = 4
LETTERS = "abcdefghijklmnopqrstuvwxyz"
LONGEST = 8
OK = "ok"
POLY = "poly"
TABLE = "table"


def is_name(word):
    """Whether a word is a name."""
    return 1 <= len(word) <= LONGEST and all([sign in LETTERS for sign in word])


def put_poly(desk, words):
    """poly NAME TEXT."""
    p = read_poly(words[2])
    if len(p) - 1 > DEGREE:
        raise NoText("the desk keeps polynomials of a degree of at most 7")
    return desk.put(words[1], (POLY, p))


def put_table(desk, words):
    """table NAME TEXT."""
    table = read_table(words[2])
    if len(table) > ROWS:
        raise NoText("the desk keeps tables of at most 4 rows")
    return desk.put(words[1], (TABLE, table))


def put_copy(desk, words):
    """copy NEW NAME."""
    return desk.put(words[1], desk.kept(words[2]))


def drop(desk, words):
    """drop NAME."""
    desk.kept(words[1])
    return desk.put(words[1], None)


def mirror(desk, words):
    """mirror NAME."""
    return desk.put(words[1], (POLY, mirrored(desk.of_kind(POLY, words[1]))))


def shift(desk, words):
    """shift NAME NUMBER."""
    number = read_number(words[2])
    return desk.put(words[1], (POLY, shifted(desk.of_kind(POLY, words[1]), number)))


def undo(desk, words):
    """undo."""
    return desk.take_back()


def show(desk, words):
    """show NAME."""
    kind, thing = desk.kept(words[1])
    return show_poly(thing) if kind == POLY else show_table(thing)


def poly_at(desk, name):
    """The polynomial by a name, or that of the table by it."""
    kind, thing = desk.kept(name)
    return thing if kind == POLY else table_poly(thing)


def show_wholes(wholes):
    """Whole numbers as a text, with a blank between."""
    return show_numbers([(whole, 1) for whole in wholes])


def three_at(desk, words):
    """three NAME."""
    return show_wholes(three(poly_at(desk, words[1])))


def circle_at(desk, words):
    """circle NAME."""
    return show_wholes(circle(poly_at(desk, words[1])))


def parts_at(desk, words):
    """parts NAME."""
    told = parts_of(desk.of_kind(POLY, words[1]))
    return "not" if told[0] == "not" else show_numbers(told[1] + [told[2]])


def said_at(desk, words):
    """said NAME."""
    return flow_said(desk.of_kind(TABLE, words[1]))[0]


def ticks_at(desk, words):
    """ticks NAME."""
    return tick_said(desk.of_kind(TABLE, words[1]))[0]


def line_at(desk, words):
    """line NAME HAIR."""
    hair = read_number(words[2])
    if hair[0] <= 0:
        raise NoText("a hair is above 0")
    return show_numbers(line_of(desk.of_kind(POLY, words[1]), hair))


# What stands behind the first word of each row.
SHAPES = {
    "poly": ("name", "text"), "table": ("name", "text"), "copy": ("name", "name"), "drop": ("name",),
    "mirror": ("name",), "shift": ("name", "number"), "undo": (), "show": ("name",), "three": ("name",),
    "circle": ("name",), "parts": ("name",), "said": ("name",), "ticks": ("name",), "line": ("name", "number"),
}
ANSWERS = {
    "poly": put_poly, "table": put_table, "copy": put_copy, "drop": drop, "mirror": mirror, "shift": shift,
    "undo": undo, "show": show, "three": three_at, "circle": circle_at, "parts": parts_at, "said": said_at,
    "ticks": ticks_at, "line": line_at,
}


def words_of(row):
    """The words of a row; of one that ends with a text, all of it is the last word."""
    words = row.split(" ")
    if words[0] == "poly" or words[0] == "table":
        return words[:2] + [" ".join(words[2:])] if len(words) > 2 else words
    return words


def fits(word, shape):
    """Whether a word may stand where the shape tells."""
    if shape == "name":
        return is_name(word)
    return shape == "text" or word != ""


def is_row(words):
    """Whether words are those of a row."""
    if words[0] not in SHAPES or len(words) - 1 != len(SHAPES[words[0]]):
        return False
    return all([fits(word, shape) for word, shape in zip(words[1:], SHAPES[words[0]])])


class Desk:
    """What stands by each name, and what stood there ahead of each deed that isn't taken back."""

    def __init__(self):
        self.things = {}
        self.deeds = []

    def kept(self, name):
        """A tuple (kind, thing) of what stands by a name."""
        found = self.things.get(name)
        if found is None:
            raise NoName("nothing stands by this name")
        return found

    def of_kind(self, kind, name):
        """What stands by a name, of this kind."""
        found, thing = self.kept(name)
        if found != kind:
            raise NoName("a thing of another kind stands by this name")
        return thing

    def put(self, name, thing):
        """A deed: this stands by the name from now on, or nothing where it is None."""
        self.deeds.append((name, self.things.get(name)))
        self.things[name] = thing
        return OK

    def take_back(self):
        """The last deed is taken back."""
        if not self.deeds:
            raise NoDeed("there is nothing to take back")
        name, before = self.deeds.pop()
        self.things[name] = before
        return OK

    def say(self, row):
        """The answer to a row."""
        if not isinstance(row, str):
            raise NoLine("this is no text")
        words = words_of(row)
        if not is_row(words):
            raise NoLine("this is no row")
        answer = ANSWERS[words[0]]
        return answer(self, words)
