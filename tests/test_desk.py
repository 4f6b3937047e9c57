from fractions import Fraction

from helper import Chance, RestCase, made, num, product
from restward.desk import Desk
from restward.lines import line_of
from restward.texts import read_number, show_poly, show_table
from restward.three import three

NAMES = ("a", "b", "abcdefgh", "zz")


class DeskCase(RestCase):
    def setUp(self):
        self.desk = Desk()

    def say(self, row, desk=None):
        told = (desk or self.desk).say(row)
        self.assertIs(type(told), str)
        return told

    def does(self, *rows):
        for row in rows:
            self.assertEqual(self.say(row), "ok", row)

    def tells(self, row, text):
        self.assertEqual(self.say(row), text)
        self.assertEqual(self.say(row), text)

    def standing(self, desk=None):
        """What stands by each of some names."""
        found = {}
        for name in NAMES:
            try:
                found[name] = self.say("show " + name, desk)
            except ValueError as error:
                self.assertEqual(type(error).__name__, "NoName")
                found[name] = None
        return found

    def refuses(self, name, *rows):
        """That just this refusal is made, and that it changes nothing, for `undo` neither."""
        before = self.standing()
        for row in rows:
            self.refused(name, self.desk.say, row)
            self.assertEqual(self.standing(), before)


class Rows(DeskCase):
    def test_poly(self):
        for text in ("-", "1", "0 0 1", "6 11 6 1", "1/2 -3/7", "1 2 3 4 5 6 7 8", "9" * 30 + "/8"):
            self.does("poly a " + text)
            self.tells("show a", text)

    def test_table(self):
        for text in ("0", "-1/2", "1 2; 3 4", "0 0 0; 0 0 0; 0 0 0", "1 2 3 4; 5 6 7 8; 9 10 11 12; 13 14 15 16"):
            self.does("table a " + text)
            self.tells("show a", text)

    def test_one_over_the_other(self):
        self.does("poly a 1 2", "table a 3 4; 5 6")
        self.tells("show a", "3 4; 5 6")
        self.refuses("NoName", "parts a", "mirror a", "shift a 1", "line a 1")
        self.does("poly a 7 8")
        self.tells("show a", "7 8")
        self.refuses("NoName", "said a", "ticks a")
        self.does("undo")
        self.tells("show a", "3 4; 5 6")
        self.does("undo")
        self.tells("show a", "1 2")

    def test_copy(self):
        self.does("poly a 1 2", "copy b a", "mirror a")
        self.tells("show a", "1 -2")
        self.tells("show b", "1 2")
        self.does("table zz 1", "copy a zz")
        self.tells("show a", "1")
        self.tells("said a", "grows")
        self.does("drop zz")
        self.tells("show a", "1")

    def test_copy_onto_itself(self):
        self.does("poly a 1 2", "copy a a")
        self.tells("show a", "1 2")
        self.does("undo")
        self.tells("show a", "1 2")
        self.does("undo")
        self.refuses("NoName", "show a")
        self.refuses("NoDeed", "undo")

    def test_drop(self):
        self.does("poly a 1 2", "drop a")
        self.refuses("NoName", "show a", "drop a", "copy b a")
        self.does("poly a 3")
        self.tells("show a", "3")

    def test_mirror_and_shift(self):
        self.does("poly a 6 11 6 1", "mirror a")
        self.tells("show a", "6 -11 6 -1")
        self.does("shift a 1/2")
        self.tells("show a", show_poly(made(Fraction(15, 8), Fraction(-23, 4), Fraction(9, 2), -1)))
        self.does("shift a -1/2")
        self.tells("show a", "6 -11 6 -1")
        self.does("shift a 0", "mirror a")
        self.tells("show a", "6 11 6 1")

    def test_nought(self):
        self.does("poly a -", "mirror a")
        self.tells("show a", "-")
        self.does("shift a 5/3", "copy b a")
        self.tells("show b", "-")
        self.refuses("NoPolynomial", "three a", "circle a", "parts a", "line a 1", "line a 1/1000000")

    def test_degree_0(self):
        self.does("poly a -3/7", "shift a 9", "mirror a")
        self.tells("show a", "-3/7")
        self.tells("three a", "0 0 0")
        self.tells("circle a", "0 0 0")
        self.tells("parts a", "-3/7")
        self.refuses("NoPolynomial", "line a 1")

    def test_three_and_circle(self):
        self.does("poly a 20 1 1 1", "table b 0 1; -2 -3", "poly zz 2 5 2")
        self.tells("three a", "1 0 2")
        self.tells("circle a", "0 0 3")
        self.tells("three b", "2 0 0")
        self.tells("circle b", "0 1 1")
        self.tells("circle zz", "1 0 1")
        self.does("table a 1/2 0; 0 0")
        self.tells("circle a", "2 0 0")
        self.tells("three a", "0 1 1")

    def test_parts(self):
        self.does("poly a 6 11 6 1", "poly b 1 0 1", "poly zz -6 -3")
        self.tells("parts a", "1/6 3/5 5/3 6")
        self.tells("parts b", "not")
        self.tells("parts zz", "1/2 -6")

    def test_said_and_ticks(self):
        self.does("table a 0 1; -2 -3", "table b 1/2", "table zz 0 1; -1 0")
        self.tells("said a", "dies")
        self.tells("ticks a", "kept")
        self.tells("said b", "grows")
        self.tells("ticks b", "dies")
        self.tells("said zz", "kept")
        self.tells("ticks zz", "kept")
        self.does("table b 2")
        self.tells("ticks b", "grows")
        self.does("table b 0")
        self.tells("said b", "kept")
        self.tells("ticks b", "dies")

    def test_line(self):
        self.does("poly a -2 0 1")
        for hair in ("1", "1/1000000", "3/7", "1/" + "1" + "0" * 29, "9" * 30):
            words = self.say("line a " + hair).split(" ")
            self.assertEqual(len(words), 2)
            low, high = [Fraction(word) for word in words]
            self.assertTrue(0 < high - low <= Fraction(hair))
            self.assertTrue(high > 0 and high * high > 2 and (low < 0 or low * low <= 2))
            told = line_of(made(-2, 0, 1), read_number(hair))
            self.assertEqual(words, [show_poly([number]) for number in told])

    def test_names(self):
        for name in ("a", "z", "abcdefgh", "zzzzzzzz", "poly", "undo", "show"):
            self.does(f"poly {name} 1")
            self.tells("show " + name, "1")

    def test_great_numbers(self):
        text = " ".join(["9" * 30 + "/" + "1" + "0" * 29] * 8)
        shifts = [show_poly(made(Fraction(10 ** 29 + at, 10 ** 29 + 3 ** at))) for at in range(40)]
        self.does("poly a " + text)
        for shift in shifts:
            self.does("shift a " + shift)
        self.assertGreater(max(len(word) for word in self.say("show a").split(" ")), 9000)
        self.assertEqual(self.say("three a").split(" ")[1], "0")
        for shift in shifts:
            self.does("shift a -" + shift)
        self.tells("show a", text)


class Undo(DeskCase):
    DEEDS = ("poly a 1 2", "poly a 1 2", "poly a -", "table b 1 2; 3 4", "table a 1", "copy b a", "copy a a", "drop a",
             "poly a 6 11 6 1", "mirror a", "mirror a", "shift a 1", "shift a 0", "poly b 0 0 1", "mirror b", "copy zz b",
             "drop b", "drop zz", "table abcdefgh 0", "poly abcdefgh 3", "drop abcdefgh", "drop a", "poly a 5")

    def test_behind_each_deed(self):
        for row in self.DEEDS:
            before = self.standing()
            self.does(row)
            after = self.standing()
            self.does("undo")
            self.assertEqual(self.standing(), before)
            self.does(row)
            self.assertEqual(self.standing(), after)

    def test_all_of_them(self):
        stood = []
        for row in self.DEEDS:
            stood.append(self.standing())
            self.does(row)
        while stood:
            self.does("undo")
            self.assertEqual(self.standing(), stood.pop())
        self.refuses("NoDeed", "undo")

    def test_undo_is_no_deed(self):
        self.does("poly a 1", "poly a 2", "poly a 3", "undo", "undo")
        self.tells("show a", "1")
        self.does("poly a 4", "undo")
        self.tells("show a", "1")
        self.does("undo")
        self.refuses("NoName", "show a")
        self.refuses("NoDeed", "undo")

    def test_behind_a_deed_that_changed_nothing(self):
        self.does("poly a 1", "poly a 1", "mirror a", "shift a 7", "copy a a")
        for _ in range(4):
            self.does("undo")
            self.tells("show a", "1")
        self.does("undo")
        self.refuses("NoName", "show a")

    def test_behind_what_was_refused_and_asked(self):
        self.does("poly a 1 1", "poly a 2 1")
        self.refuses("NoLine", "poly", "mirror", "x")
        self.refuses("NoText", "poly a x", "shift a x", "table a 1 2")
        self.refuses("NoName", "drop b", "mirror b", "copy b zz", "said a")
        for row in ("show a", "three a", "circle a", "parts a", "line a 1"):
            self.say(row)
        self.does("undo")
        self.tells("show a", "1 1")

    def test_nothing_to_take_back(self):
        self.refuses("NoDeed", "undo", "undo")
        self.does("poly a 1", "undo")
        self.refuses("NoDeed", "undo")

    def test_by_chance(self):
        chance = Chance(361)
        desk, stood = self.desk, []
        for _ in range(400):
            name, other = chance.pick(NAMES), chance.pick(NAMES)
            row = chance.pick([f"poly {name} {chance.pick(['-', '1', '1 2', '0 3 1/2'])}",
                               f"table {name} {chance.pick(['1', '1 2; 3 4'])}", f"copy {name} {other}", f"drop {name}",
                               f"mirror {name}", f"shift {name} {chance.pick(['1', '-1/2', 'x', ''])}", "undo", "undo"])
            before = self.standing()
            try:
                desk.say(row)
            except ValueError:
                self.assertEqual(self.standing(), before)
                continue
            if row == "undo":
                self.assertEqual(self.standing(), stood.pop())
            else:
                stood.append(before)


class Several(DeskCase):
    def test_two_desks_by_turns(self):
        one, other = Desk(), Desk()
        self.assertEqual(self.say("poly a 1 2", one), "ok")
        self.refused("NoName", other.say, "show a")
        self.refused("NoDeed", other.say, "undo")
        self.assertEqual(self.say("poly a 3 4", other), "ok")
        self.assertEqual(self.say("mirror a", one), "ok")
        self.assertEqual(self.say("show a", one), "1 -2")
        self.assertEqual(self.say("show a", other), "3 4")
        self.assertEqual(self.say("undo", other), "ok")
        self.assertEqual(self.say("show a", one), "1 -2")
        self.refused("NoName", other.say, "show a")
        self.assertEqual(self.say("undo", one), "ok")
        self.assertEqual(self.say("show a", one), "1 2")


class Refusals(DeskCase):
    def setUp(self):
        super().setUp()
        self.does("poly a 6 11 6 1", "table b 1 2; 3 4")

    def test_what_is_no_text(self):
        self.refuses("NoLine", None, True, False, 0, 5, [], (), ["show a"], ("show", "a"), [["undo"]])

    def test_what_is_no_row(self):
        self.refuses("NoLine", "", " ", "  ", "x", "help", "Show a", "SHOW a", "show", "a", "ok", "undo a", "undo 1",
                     "polynomial a 1", "poly", "table", "copy", "drop", "mirror", "shift", "three", "circle", "parts",
                     "said", "ticks", "line", "say a", "lines a 1", "put a 1")

    def test_too_many_and_too_few_words(self):
        self.refuses("NoLine", "copy a", "copy a b a", "drop a b", "mirror a a", "shift a", "shift a 1 2", "show a b",
                     "three a a", "circle a 1", "parts a a", "said b b", "ticks b b", "line a", "line a 1 1", "undo undo")

    def test_blanks(self):
        for row in ("undo", "show a", "drop a", "mirror a", "shift a 1", "copy zz a", "three a", "circle a", "parts a",
                    "said b", "ticks b", "line a 1"):
            self.refuses("NoLine", " " + row, row + " ", row + "  ", " " + row + " ")
            if " " in row:
                self.refuses("NoLine", row.replace(" ", "  ", 1), row.replace(" ", "", 1))
        self.refuses("NoLine", "shift a  1", "line a  1", "copy zz  a", " poly a 1", "poly  a 1", "table  b 1", "poly ",
                     "poly  ", "table  1", "shift a ", "line a ", "copy a ", "show ", "drop ")

    def test_without_the_blank_ahead_of_a_text(self):
        self.refuses("NoLine", "poly a", "table b", "poly zz", "table zz", "poly", "poly a-", "poly 1")

    def test_names_that_are_none(self):
        for name in ("abcdefghi", "A", "aB", "a1", "1", "a_b", "a-b", "-", "a.", "abcdefghij", "a" * 100, "~", "0"):
            self.refuses("NoLine", f"poly {name} 1", f"table {name} 1", f"copy {name} a", f"copy zz {name}",
                         f"drop {name}", f"mirror {name}", f"shift {name} 1", f"show {name}", f"three {name}",
                         f"circle {name}", f"parts {name}", f"said {name}", f"ticks {name}", f"line {name} 1")

    def test_texts_that_arent_written_so(self):
        for text in ("", " ", "x", "0", "1 0", "01", "1/1", "2/4", "-0", "1  2", " 1", "1 ", "--", "1 -", "1; 2", "+1",
                     "1" * 31, "1/0"):
            self.refuses("NoText", "poly a " + text, "poly zz " + text)
        for text in ("", " ", "x", "-", "1 2", "1; 2", "1 2;3 4", "1 2; 3", "01", "2/4", "-0", " 1", "1 ", "1 2; 3 4; "):
            self.refuses("NoText", "table b " + text, "table zz " + text)
        for text in ("x", "-", "01", "1/1", "2/4", "-0", "+1", "1.5", "1" * 31, "1/0", "a", "--1", "1/", "/2"):
            self.refuses("NoText", "shift a " + text, "line a " + text)

    def test_beyond_the_desks_bounds(self):
        self.does("poly a 0 0 0 0 0 0 0 1")
        self.refuses("NoText", "poly a 0 0 0 0 0 0 0 0 1", "poly a " + " ".join(["1"] * 15))
        for n in (5, 6, 7):
            one = [[num(int(i == j)) for j in range(n)] for i in range(n)]
            self.refuses("NoText", "table b " + show_table(one))
        self.does("table b " + show_table([[num(0)] * 4] * 4))

    def test_hairs_not_above_0(self):
        self.refuses("NoText", "line a 0", "line a -1", "line a -1/2", "line a -0")

    def test_names_by_which_nothing_stands(self):
        self.refuses("NoName", "show zz", "drop zz", "copy a zz", "copy zz zz", "mirror zz", "shift zz 1", "three zz",
                     "circle zz", "parts zz", "said zz", "ticks zz", "line zz 1")

    def test_things_of_another_kind(self):
        self.refuses("NoName", "mirror b", "shift b 1", "parts b", "line b 1", "said a", "ticks a")

    def test_the_order_of_refusals(self):
        # No row goes first, then what isn't written so, then the name, then what the functions refuse.
        self.refuses("NoLine", "shift A x", "line A 0", "poly A x", "table abcdefghi ", "shift zz x y", "copy A zz",
                     "mirror zz zz", "undo undo")
        self.refuses("NoText", "shift zz x", "line zz 0", "line zz x", "line b 0", "shift b x", "line zz -1")
        self.does("poly a -")
        self.refuses("NoText", "line a 0", "line a x")
        self.refuses("NoName", "line zz 1", "parts b")
        self.refuses("NoPolynomial", "line a 1", "parts a", "three a", "circle a")

    def test_what_is_refused_is_no_deed(self):
        fresh = Desk()
        for row in ("poly a", "poly a x", "drop a", "mirror a", "shift a 1", "copy a b", "three a"):
            with self.assertRaises(ValueError):
                fresh.say(row)
        self.refused("NoDeed", fresh.say, "undo")


class Alike(DeskCase):
    def test_as_the_functions_tell(self):
        chance = Chance(362)
        for _ in range(40):
            p = product([chance.whole(1, 9)], *[[chance.whole(-3, 9), 1] for _ in range(chance.whole(0, 6))])
            self.does("poly a " + show_poly(p))
            self.tells("three a", "{} {} {}".format(*three(p)))
            self.tells("show a", show_poly(p))
