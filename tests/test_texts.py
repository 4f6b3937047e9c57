from fractions import Fraction

from helper import Chance, RestCase, chance_table, diagonal, made, noughts, num, table
from restward.flows import flow_form
from restward.polys import shifted
from restward.tables import unit
from restward.texts import read_number, read_poly, read_table, show_number, show_poly, show_table

STRANGE = (None, True, False, 0, 1, -5, (), [], (1, 1), [(1, 1)], ["1"], ("1",), [["1"]], [[(1, 1)]], (1, 2))
TOP30 = 10 ** 30 - 1
NO_NUMBERS = (
    "", " ", "-", "--1", "-0", "00", "01", "-01", "007", "+1", "1.", "1.0", "1e3", "0x1", "1_000", "a", "1a", "a1", "/",
    "1/", "/2", "-/2", "1/1", "0/1", "-1/1", "1/0", "0/0", "0/2", "2/4", "6/3", "-2/4", "10/4", "1/-2", "-1/-2", "1/+2",
    "1/02", "01/2", "1/2/3", "1//2", " 1", "1 ", "1 /2", "1/ 2", "- 1", "1 2", "1;2", "1; 2", "(1, 2)", "1,2", "one",
    "10/10", "1/2 ", "-1/2/", "1-", "1/2-", "\\1", "~", "1" * 31, "-" + "1" * 31, "1/" + "1" * 31, "1" + "0" * 30,
    "1" * 100, "0" * 30, "0" * 31, "1" * 2000)


def figures(whole):
    """By plain division, ten figures at once."""
    sign, whole, found = "-" * (whole < 0), abs(whole), []
    while whole >= 10 ** 10:
        whole, rest = divmod(whole, 10 ** 10)
        found.append(f"{rest:010d}")
    return sign + str(whole) + "".join(reversed(found))


class Numbers(RestCase):
    def look(self, number, text):
        self.assertEqual(self.asked(show_number, number), text)
        self.assertIs(type(show_number(number)), str)
        self.assertEqual(self.asked(read_number, text), number)
        self.assertNumber(read_number(text))

    def test_known(self):
        for number, text in (((0, 1), "0"), ((1, 1), "1"), ((-1, 1), "-1"), ((1, 2), "1/2"), ((-1, 2), "-1/2"),
                             ((10, 1), "10"), ((-100, 1), "-100"), ((7, 10), "7/10"), ((-22, 7), "-22/7"),
                             ((1, 10), "1/10"), ((123456789012, 1), "123456789012")):
            self.look(number, text)

    def test_thirty_figures(self):
        self.look((TOP30, 1), "9" * 30)
        self.look((-TOP30, 1), "-" + "9" * 30)
        self.look((TOP30, 10 ** 29), "9" * 30 + "/1" + "0" * 29)
        self.look((-TOP30, TOP30 - 1), "-" + "9" * 30 + "/" + "9" * 29 + "8")
        self.look((1, TOP30), "1/" + "9" * 30)

    def test_by_chance(self):
        chance = Chance(341)
        for size in range(1, 31):
            for _ in range(5):
                number = num(chance.fraction(size))
                self.look(number, f"{number[0]}/{number[1]}" if number[1] > 1 else str(number[0]))

    def test_what_is_no_number(self):
        for text in NO_NUMBERS:
            self.refused("NoText", read_number, text)

    def test_what_is_no_text(self):
        for thing in STRANGE:
            self.refused("NoText", read_number, thing)

    def test_thirty_one_figures_are_written_but_not_read(self):
        for number in ((10 ** 30, 1), (-(10 ** 30), 1), (1, 10 ** 30), (10 ** 30 + 1, 10 ** 30)):
            self.refused("NoText", read_number, self.asked(show_number, number))

    def test_great_numbers_are_written(self):
        chance = Chance(342)
        for size in (59, 60, 61, 119, 120, 121, 300, 2000, 4300, 4301, 9000):
            for whole in (10 ** size, 10 ** size - 1, 10 ** size + 1, chance.whole(1, 10 ** size)):
                self.assertEqual(show_number((whole, 1)), figures(whole))
                self.assertEqual(show_number((-whole, 1)), "-" + figures(whole))
                if whole > 1:
                    self.assertEqual(show_number((1, whole)), "1/" + figures(whole))


class Polynomials(RestCase):
    def look(self, p, text):
        self.assertEqual(self.asked(show_poly, p), text)
        told = self.asked(read_poly, text)
        self.assertEqual(told, p)
        self.assertPolynomial(told)

    def test_known(self):
        self.look([], "-")
        self.look(made(1), "1")
        self.look(made(Fraction(-2, 3)), "-2/3")
        self.look(made(6, 11, 6, 1), "6 11 6 1")
        self.look(made(0, 0, Fraction(1, 2), -1), "0 0 1/2 -1")

    def test_degree_14(self):
        self.look(made(*range(1, 16)), "1 2 3 4 5 6 7 8 9 10 11 12 13 14 15")
        self.look(made(*[0] * 14, 1), "0 " * 14 + "1")
        self.refused("NoText", read_poly, " ".join(["1"] * 16))
        self.refused("NoText", read_poly, "0 " * 15 + "1")
        self.refused("NoText", read_poly, " ".join(["1"] * 100))

    def test_by_chance(self):
        chance = Chance(343)
        for degree in range(15):
            for size in (1, 12, 30):
                p = chance.polynomial(degree, size)
                self.look(p, " ".join(show_number(number) for number in p))

    def test_what_is_no_polynomial(self):
        for text in NO_NUMBERS:
            if text not in ("-", "1 2"):
                self.refused("NoText", read_poly, text)
                self.refused("NoText", read_poly, text + " 1")
                self.refused("NoText", read_poly, "1 " + text)
        for text in ("0", "1 0", "0 0", "1 2 0", "- 1", "1 -", "--", "-  ", " -", "- ", "1  2", " 1 2", "1 2 ", "1; 2",
                     "1 2; 3 4", "[]", "1,2", "1 2 0/1", "1 2 x", "- -", "1 -0"):
            self.refused("NoText", read_poly, text)

    def test_what_is_no_text(self):
        for thing in STRANGE:
            self.refused("NoText", read_poly, thing)

    def test_great_numbers_are_written(self):
        p = shifted(made(1, 1, 1, 1, 1, 1, 1, 1), num(10 ** 300 - 1, 10 ** 299 + 3))
        p = shifted(p, num(10 ** 300 - 7, 10 ** 299 + 9))
        text = self.asked(show_poly, p)
        self.assertGreater(len(text), 9000)
        self.assertEqual(text, " ".join(figures(top) + ("/" + figures(bottom) if bottom > 1 else "")
                                        for top, bottom in p))


class Tables(RestCase):
    def look(self, one, text):
        self.assertEqual(self.asked(show_table, one), text)
        self.assertEqual(self.asked(read_table, text), one)

    def test_known(self):
        self.look(table((0,)), "0")
        self.look(table((Fraction(-1, 2),)), "-1/2")
        self.look(table((1, 2), (3, 4)), "1 2; 3 4")
        self.look(noughts(3), "0 0 0; 0 0 0; 0 0 0")
        self.look(diagonal([1, -1]), "1 0; 0 -1")

    def test_by_chance(self):
        chance = Chance(344)
        for n in range(1, 8):
            for size in (1, 12):
                one = chance_table(chance, n, size)
                self.look(one, "; ".join(" ".join(show_number(number) for number in row) for row in one))
        for n in range(1, 5):
            one = chance_table(chance, n, 30)
            self.look(one, "; ".join(" ".join(show_number(number) for number in row) for row in one))

    def test_seven_and_eight_rows(self):
        self.assertEqual(read_table(show_table(unit(7))), unit(7))
        self.refused("NoText", read_table, show_table(unit(8)))
        self.refused("NoText", read_table, show_table(unit(20)))

    def test_what_is_no_table(self):
        for text in NO_NUMBERS:
            self.refused("NoText", read_table, text)
            self.refused("NoText", read_table, "1 " + text + "; 3 4")
            self.refused("NoText", read_table, "1 2; 3 " + text)
        for text in ("-", "1 2", "1; 2", "1 2;3 4", "1 2 ; 3 4", "1 2;  3 4", "1 2; 3 4;", "1 2; 3 4; ", "; 1 2; 3 4",
                     " 1 2; 3 4", "1 2; 3 4 ", "1 2; 3", "1; 3 4", "1 2 3; 4 5 6", "1 2; 3 4; 5 6", "1  2; 3 4", "1;",
                     "1 2, 3 4", "1 2; 3 -", "1 2; -", ";", "; ", "1 2\\n3 4", "[[1]]"):
            self.refused("NoText", read_table, text)

    def test_what_is_no_text(self):
        for thing in STRANGE:
            self.refused("NoText", read_table, thing)

    def test_great_numbers_are_written(self):
        word, form = flow_form(chance_table(Chance(345), 3, 150))
        self.assertEqual(word, "form")
        text = self.asked(show_table, form)
        self.assertEqual(text, "; ".join(" ".join(figures(top) + "/" + figures(bottom) for top, bottom in row)
                                         for row in form))
