from fractions import Fraction

from helper import (
    Chance, RestCase, cross, factors, frac, fracs, known_polynomials, known_product, level, line, made, num, pair,
    upright, worth_frac,
)
from restward.between import halves, points_between
from restward.polys import mirrored


def sign(value):
    return (value > 0) - (value < 0)


class Halves(RestCase):
    def look(self, p):
        told = self.asked(halves, p)
        self.assertIs(type(told), tuple)
        even, odd = told
        self.assertPolynomial(even)
        self.assertPolynomial(odd)
        for x in (Fraction(0), Fraction(1), Fraction(-3, 7), Fraction(10 ** 12)):
            self.assertTrue(worth_frac(p, x) == worth_frac(even, x * x) + x * worth_frac(odd, x * x))
        return told

    def test_known(self):
        self.assertEqual(self.look(made(6, 11, 7, 1)), (made(6, 7), made(11, 1)))
        self.assertEqual(self.look(made(5, 4, 3, 2, 1)), (made(5, 3, 1), made(4, 2)))

    def test_all_degrees(self):
        chance = Chance(141)
        for degree in range(8):
            for figures, bottoms in ((1, False), (1, True), (12, True), (300, True)):
                self.look(chance.polynomial(degree, figures, bottoms))

    def test_nought_and_a_number_alone(self):
        self.assertEqual(self.look([]), ([], []))
        self.assertEqual(self.look(made(Fraction(-2, 3))), (made(Fraction(-2, 3)), []))

    def test_even_or_odd_powers_alone(self):
        self.assertEqual(self.look(made(1, 0, 3)), (made(1, 3), []))
        self.assertEqual(self.look(made(0, 2)), ([], made(2)))
        self.assertEqual(self.look(made(0, 2, 0, 0, 0, 5)), ([], made(2, 0, 5)))

    def test_noughts_at_the_end_of_a_half(self):
        self.assertEqual(self.look(made(1, 2, 0, 3)), (made(1), made(2, 3)))
        self.assertEqual(self.look(made(1, 2, 5, 0, 3)), (made(1, 5, 3), made(2)))
        self.assertEqual(self.look(made(0, 2, 0, 0, 3)), (made(0, 0, 3), made(2)))


class Points(RestCase):
    def look(self, p, numbers):
        told = self.asked(points_between, p)
        self.assertIs(type(told), tuple)
        if numbers[0] < len(p) - 1:
            self.assertEqual(told, ("not",) + numbers)
            self.assertEqual([type(each) for each in told[1:]], [int] * 3)
            return
        word, points = told
        self.assertEqual(word, "points")
        self.assertIs(type(points), list)
        for point in points:
            self.assertNumber(point)
        self.assertEqual(len(points), len(p) - 1)
        self.assertEqual(points[0], num(0))
        self.look_at_signs(p, fracs(points))

    def look_at_signs(self, p, points):
        self.assertEqual(points, sorted(set(points), reverse=True))
        even, odd = p[::2], p[1::2]
        self.assertEqual(sign(frac(even[0])) * sign(frac(odd[0])), 1)
        for at in range(len(points) - 1):
            half = odd if at % 2 else even
            self.assertEqual(sign(worth_frac(half, points[at])) * sign(worth_frac(half, points[at + 1])), -1)

    def test_known_factors(self):
        for p, numbers in known_polynomials(Chance(142), 200, 7):
            if len(p) > 1:
                self.look(p, numbers)
                self.look(mirrored(p), numbers[::-1])

    def test_each_factor(self):
        for factor in factors(Chance(143)):
            for often in (1, 2, 3):
                if (len(factor[0]) - 1) * often < 8:
                    self.look(*known_product(-3, [factor] * often))

    def test_degree_1(self):
        self.look(made(1, 1), (1, 0, 0))
        self.look(made(-2, -3), (1, 0, 0))
        self.look(made(-1, 1), (0, 0, 1))
        self.look(made(0, 1), (0, 1, 0))
        self.assertEqual(points_between(made(1, 1)), ("points", made(0)))

    def test_degree_7(self):
        self.look(*known_product(1, [line(-k) for k in range(1, 8)]))
        self.look(*known_product(1, [line(-1)] * 7))
        self.look(*known_product(-1, [pair(Fraction(-1, 10 ** 6), 1)] * 3 + [line(-1)]))
        self.look(*known_product(1, [line(k) for k in range(1, 8)]))

    def test_roots_far_from_one_another(self):
        self.look(*known_product(1, [line(Fraction(-1, 10 ** 12)), line(-10 ** 12), line(-1), pair(-1, 10 ** 12)]))

    def test_roots_very_near_to_one_another(self):
        hair = Fraction(1, 10 ** 40)
        self.look(*known_product(1, [pair(-hair, 1), pair(-hair, 1 + hair), pair(-hair, 1 + 2 * hair), line(-1)]))

    def test_roots_on_the_axis_and_opposite(self):
        self.look(*known_product(1, [line(0), line(-1), line(-2)]))
        self.look(*known_product(1, [upright(1), line(-1), line(-2)]))
        self.look(*known_product(1, [upright(1), upright(1), line(-2)]))
        self.look(*known_product(1, [level(1), line(-2)]))
        self.look(*known_product(1, [cross(1), line(-2)]))
        self.look(*known_product(1, [upright(3)]))
        self.look(*known_product(1, [line(0)] * 7))

    def test_numbers_above_0_dont_suffice(self):
        self.look(made(20, 1, 1, 1), (1, 0, 2))
        self.look(made(1, 1, 1, 1), (1, 2, 0))

    def test_three_hundred_figures(self):
        chance = Chance(144)
        self.look(*known_product(chance.fraction(300), [line(-abs(chance.fraction(300))) for _ in range(4)]))

    def test_nought_and_numbers_alone_are_refused(self):
        self.refused("NoPolynomial", points_between, [])
        for value in (1, -2, Fraction(1, 3)):
            self.refused("NoPolynomial", points_between, made(value))
