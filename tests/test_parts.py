from fractions import Fraction

from helper import Chance, RestCase, known_polynomials, made, num, poly_of_parts, product
from restward.divisions import divisions
from restward.parts import from_parts, parts_of
from restward.polys import mirrored
from restward.three import dies


class There(RestCase):
    def look(self, p, numbers):
        told = self.asked(parts_of, p)
        self.assertIs(type(told), tuple)
        if numbers[0] < len(p) - 1:
            self.assertEqual(told, ("not",) + numbers)
            self.assertEqual([type(each) for each in told[1:]], [int] * 3)
            return
        word, parts, last = told
        self.assertEqual(word, "parts")
        self.assertIs(type(parts), list)
        self.assertEqual(len(parts), len(p) - 1)
        for part in parts:
            self.assertNumber(part)
            self.assertGreater(part[0], 0)
        self.assertNumber(last)
        self.assertEqual(divisions(p), ([[num(0), part] for part in parts], [last]))
        self.assertTrue(self.asked(from_parts, parts, last) == p)

    def test_known(self):
        self.assertEqual(parts_of(made(6, 11, 6, 1)),
                         ("parts", made(Fraction(1, 6), Fraction(3, 5), Fraction(5, 3)), num(6)))
        self.assertEqual(parts_of(made(1, 1)), ("parts", made(1), num(1)))
        self.assertEqual(parts_of(made(-6, -3)), ("parts", made(Fraction(1, 2)), num(-6)))
        self.assertEqual(parts_of(made(1, -1)), ("not", 0, 0, 1))
        self.assertEqual(parts_of(made(1, 0, 1)), ("not", 0, 2, 0))
        self.assertEqual(parts_of(made(20, 1, 1, 1)), ("not", 1, 0, 2))
        self.assertEqual(parts_of(made(1, 1, 1, 1)), ("not", 1, 2, 0))

    def test_known_factors(self):
        for p, numbers in known_polynomials(Chance(121), 200, 14):
            self.look(p, numbers)
            self.look(mirrored(p), numbers[::-1])

    def test_of_a_number_alone(self):
        for value in (1, -1, Fraction(2, 3), Fraction(-5, 10 ** 12)):
            self.look(made(value), (0, 0, 0))
            self.assertEqual(parts_of(made(value)), ("parts", [], num(value)))

    def test_a_lead_below_0(self):
        self.look(product([-2], [1, 1], [2, 1], [5, 2, 1]), (4, 0, 0))
        self.look(product([-2], [1, 1], [2, 1], [5, -2, 1]), (2, 0, 2))

    def test_roots_on_the_axis_and_opposite(self):
        self.look(product([1, 0, 1], [1, 1], [2, 1]), (2, 2, 0))
        self.look(product([0, 1], [1, 1], [2, 1]), (2, 1, 0))
        self.look(product([-1, 0, 1], [2, 1]), (2, 0, 1))
        self.look(product([1, 0, 0, 0, 1], [2, 1]), (3, 0, 2))
        self.look(made(0, 1), (0, 1, 0))
        self.look(made(*[0] * 14, 1), (0, 14, 0))

    def test_quotients_above_0_of_higher_degrees(self):
        self.look(made(1, 0, 0, 1), (1, 0, 2))
        self.look(made(1, 0, 0, 0, 0, 1), (3, 0, 2))

    def test_degree_14(self):
        self.look(product(*[[k, 1] for k in range(1, 15)]), (14, 0, 0))
        self.look(product(*[[-k, 1] for k in range(1, 15)]), (0, 0, 14))
        self.look(product(*[[Fraction(1, k), 1, 1] for k in range(1, 8)]), (14, 0, 0))

    def test_three_hundred_figures(self):
        chance = Chance(122)
        far = [abs(chance.fraction(300)) for _ in range(3)]
        self.look(product([chance.fraction(300)], *[[value, 1] for value in far]), (3, 0, 0))

    def test_nought_is_refused(self):
        self.refused("NoPolynomial", parts_of, [])


class Back(RestCase):
    def look(self, parts, last):
        p = self.asked(from_parts, parts, last)
        self.assertPolynomial(p)
        self.assertEqual(len(p), len(parts) + 1)
        self.assertTrue(p == poly_of_parts(parts, last))
        self.assertTrue(self.asked(parts_of, p) == ("parts", parts, last))
        self.assertIs(dies(p), True)

    def test_rows(self):
        chance = Chance(123)
        for many in range(15):
            for figures in (1, 12):
                parts = made(*[abs(chance.fraction(figures)) or 1 for _ in range(many)])
                self.look(parts, num(chance.fraction(figures) or -1))

    def test_known(self):
        self.assertEqual(self.asked(from_parts, made(1, 2), num(3)), made(3, 6, 6))
        self.assertEqual(self.asked(from_parts, made(Fraction(1, 2)), num(-6)), made(-6, -3))

    def test_no_parts_at_all(self):
        for value in (1, -1, Fraction(-3, 7)):
            self.look([], num(value))
            self.assertEqual(from_parts([], num(value)), made(value))

    def test_fourteen(self):
        self.look(made(*[1] * 14), num(-1))
        self.look(made(*[Fraction(1, 10 ** 12)] * 14), num(1))

    def test_the_same_part_again(self):
        part = num(2, 3)
        self.look([part, part, part], part)

    def test_three_hundred_figures(self):
        chance = Chance(124)
        self.look([num(abs(chance.fraction(300))) for _ in range(4)], num(chance.fraction(300)))

    def test_lists_that_are_no_parts(self):
        good = made(1, 2)
        for wrong in (num(0), num(-1), num(-1, 3), (2, 4), (0, 2), (1, 0), (1, -1), (-1, -1), (True, 1), (1, True), 1,
                      0, True, None, "1", "", "1/2", [1, 1], [], (), (1,), (1, 1, 1), [(1, 1)], ((1, 1), (1, 1)),
                      (None, 1), (1, None), ("1", 1), ((1,), 1), ([1], 1)):
            for at in range(3):
                self.refused("NoParts", from_parts, good[:at] + [wrong] + good[at:], num(1))
            self.refused("NoParts", from_parts, [wrong], num(-2))

    def test_more_than_fourteen(self):
        self.refused("NoParts", from_parts, made(*[1] * 15), num(1))
        self.refused("NoParts", from_parts, made(*[Fraction(1, 2)] * 100), num(1))

    def test_last_numbers_that_are_none(self):
        for last in (num(0), (2, 4), (0, 3), (1, 0), (1, -1), (True, 1), (1, True), (False, 1), 1, 0, True, None, "1",
                     [1, 1], [], (), (1,), (1, 1, 1), [num(1)], (num(1), num(1)), (1, "1"), ((), 1)):
            self.refused("NoParts", from_parts, made(1, 2), last)
            self.refused("NoParts", from_parts, [], last)

    def test_things_of_other_kinds_in_either_place(self):
        things = (None, True, False, 0, 5, "x", "", (), tuple(made(1, 2)), num(1), (num(1),), [None], [[]], [()], "1 2",
                  ([],), [made(1)], [True, True])
        for thing in things:
            self.refused("NoParts", from_parts, thing, num(1))
            for other in things:
                if other != num(1):
                    self.refused("NoParts", from_parts, thing, other)
                    self.refused("NoParts", from_parts, made(1), other)

    def test_what_was_told_put_otherwise(self):
        told = parts_of(made(6, 11, 6, 1))
        word, parts, last = told
        self.refused("NoParts", from_parts, told, last)
        self.refused("NoParts", from_parts, parts, parts)
        self.refused("NoParts", from_parts, tuple(parts), last)
        self.refused("NoParts", from_parts, last, parts)
        self.refused("NoParts", from_parts, [list(part) for part in parts], last)
        self.refused("NoParts", from_parts, [(-top, bottom) for top, bottom in parts], last)
        self.refused("NoParts", from_parts, parts, list(last))
        self.assertTrue(dies(self.asked(from_parts, parts[1:], last)))
        self.assertTrue(dies(self.asked(from_parts, parts + parts, (-last[0], last[1]))))
