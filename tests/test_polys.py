from fractions import Fraction

from helper import Chance, RestCase, frac, fracs, made, num, strip, sum_fracs, times_fracs, worth_frac
from restward.polys import (
    is_polynomial, mirrored, poly, poly_less, poly_sum, poly_times, scaled, shifted, slope, worth,
)

EDGES = [[], made(0), made(5), made(-1), made(Fraction(2, 3)), made(0, 1), made(0, -1), made(0, 0, 0, 7),
         made(1, 1), made(-1, 1), made(1, 0, 1), made(0, 0, Fraction(-5, 6), 0, 1)]
EDGES = [strip(p) if p != made(0) else [] for p in EDGES]


def samples():
    chance = Chance(11)
    found = [chance.polynomial(degree, figures, bottoms)
             for degree in range(15) for figures, bottoms in ((1, False), (1, True), (12, True), (12, False))]
    return EDGES + found + [chance.polynomial(5, 300), chance.polynomial(14, 300, False)]


class Making(RestCase):
    def test_noughts_at_the_end_are_left_out(self):
        self.assertEqual(self.asked(poly, made(1, 2, 0, 0)), made(1, 2))
        self.assertEqual(self.asked(poly, made(0, 0, 3)), made(0, 0, 3))
        self.assertEqual(self.asked(poly, made(0, 1, 0)), made(0, 1))

    def test_noughts_alone_are_nought(self):
        for many in range(16):
            self.assertEqual(self.asked(poly, made(*([0] * many))), [])

    def test_what_needs_nothing_is_told_anew(self):
        for p in samples():
            self.assertEqual(self.asked(poly, p), p)

    def test_of_fifteen_numbers(self):
        numbers = made(*range(1, 15), 0)
        self.assertEqual(self.asked(poly, numbers), numbers[:14])


class Sums(RestCase):
    def test_sums_and_differences(self):
        chance = Chance(12)
        for p in samples():
            for q in EDGES + [chance.polynomial(chance.whole(0, 14), 12) for _ in range(4)]:
                told = self.asked(poly_sum, p, q)
                self.assertPolynomial(told)
                self.assertEqual(fracs(told), sum_fracs(fracs(p), fracs(q)))
                told = self.asked(poly_less, p, q)
                self.assertPolynomial(told)
                self.assertEqual(fracs(told), sum_fracs(fracs(p), [-value for value in fracs(q)]))

    def test_a_lead_that_vanishes(self):
        self.assertEqual(self.asked(poly_sum, made(1, 2, 3), made(1, 0, -3)), made(2, 2))
        self.assertEqual(self.asked(poly_sum, made(1, 2, 3), made(1, -2, -3)), made(2))
        self.assertEqual(self.asked(poly_less, made(1, 2, 3), made(0, 2, 3)), made(1))

    def test_all_vanishes(self):
        for p in samples():
            self.assertEqual(self.asked(poly_less, p, p), [])
            self.assertEqual(self.asked(poly_sum, p, [(-top, bottom) for top, bottom in p]), [])

    def test_nought_takes_part(self):
        for p in samples():
            self.assertEqual(self.asked(poly_sum, p, []), p)
            self.assertEqual(self.asked(poly_sum, [], p), p)
            self.assertEqual(self.asked(poly_less, p, []), p)
            self.assertEqual(self.asked(poly_less, [], p), [(-top, bottom) for top, bottom in p])


class Products(RestCase):
    def test_products(self):
        chance = Chance(13)
        for p in samples():
            room = 14 - max(0, len(p) - 1)
            for q in [[], made(1), made(-3), chance.polynomial(room, 1), chance.polynomial(room, 12)]:
                told = self.asked(poly_times, p, q)
                self.assertPolynomial(told)
                self.assertEqual(fracs(told), times_fracs(fracs(p), fracs(q)))
                self.assertEqual(poly_times(q, p), told)

    def test_known(self):
        self.assertEqual(poly_times(made(1, 1), made(-1, 1)), made(-1, 0, 1))
        self.assertEqual(poly_times(made(Fraction(1, 2), 1), made(4, 2)), made(2, 5, 2))

    def test_noughts_within(self):
        self.assertEqual(poly_times(made(0, 1), made(0, 0, 1)), made(0, 0, 0, 1))

    def test_multiples(self):
        for p in samples():
            for number in (num(1), num(-1), num(3, 7), num(-10 ** 11, 7), num(10 ** 299, 3)):
                told = self.asked(scaled, number, p)
                self.assertPolynomial(told)
                self.assertEqual(fracs(told), [frac(number) * value for value in fracs(p)])

    def test_multiple_by_0(self):
        for p in samples():
            self.assertEqual(self.asked(scaled, (0, 1), p), [])


class Others(RestCase):
    def test_slopes(self):
        for p in samples():
            told = self.asked(slope, p)
            self.assertPolynomial(told)
            values = fracs(p)
            self.assertEqual(fracs(told), [i * values[i] for i in range(1, len(values))])

    def test_slope_of_a_number_and_of_nought(self):
        self.assertEqual(slope([]), [])
        self.assertEqual(slope(made(7)), [])
        self.assertEqual(slope(made(7, 1)), made(1))

    def test_mirrored(self):
        for p in samples():
            told = self.asked(mirrored, p)
            self.assertPolynomial(told)
            self.assertEqual(fracs(told), [(-1) ** i * value for i, value in enumerate(fracs(p))])

    def test_worth(self):
        for p in samples():
            for x in (Fraction(0), Fraction(1), Fraction(-1), Fraction(2, 3), Fraction(-123456789012, 999999999989)):
                told = self.asked(worth, p, num(x))
                self.assertNumber(told)
                self.assertEqual(frac(told), worth_frac(p, x))

    def test_worth_of_nought_and_of_a_number(self):
        self.assertEqual(worth([], num(2, 3)), (0, 1))
        self.assertEqual(worth(made(5), num(2, 3)), (5, 1))

    def test_worth_at_a_root(self):
        self.assertEqual(worth(made(-2, 3), num(2, 3)), (0, 1))


class Shifts(RestCase):
    def test_shifted(self):
        for p in samples():
            for a in (Fraction(1), Fraction(-2), Fraction(3, 5), Fraction(-123456789012, 7)):
                told = self.asked(shifted, p, num(a))
                self.assertPolynomial(told)
                expected = []
                for value in reversed(fracs(p)):
                    expected = sum_fracs(times_fracs(expected, [a, Fraction(1)]), [value])
                self.assertEqual(fracs(told), expected)

    def test_by_0(self):
        for p in samples():
            self.assertEqual(self.asked(shifted, p, (0, 1)), p)

    def test_and_back(self):
        for p in samples():
            for top, bottom in ((1, 1), (-5, 7), (10 ** 12, 3), (10 ** 40 + 1, 10 ** 39)):
                self.assertEqual(shifted(shifted(p, (top, bottom)), (-top, bottom)), p)

    def test_known(self):
        self.assertEqual(shifted(made(0, 0, 1), num(3)), made(9, 6, 1))
        self.assertEqual(shifted([], num(3)), [])
        self.assertEqual(shifted(made(4), num(3)), made(4))


class AnyThing(RestCase):
    def test_polynomials(self):
        for p in samples():
            self.assertIs(is_polynomial(p), True)

    def test_what_is_none(self):
        for thing in (tuple(made(1, 2)), made(1, 0), made(0), [1, 2], [(2, 4)], [(1, 1), None], [[1, 1]], None, 0,
                      "poly", [(True, 1)], [made(1)], ((1, 1),), True):
            self.assertIs(is_polynomial(thing), False, thing)
