from fractions import Fraction

from helper import (
    Chance, RestCase, chosen_circle, circle_factors, frac, fracs, known_polynomials, known_product, made, num, product,
    sum_fracs, times_fracs,
)
from restward.polys import worth
from restward.ticks import circle, ticked, unticked
from restward.three import three


def power(values, many):
    result = [Fraction(1)]
    for _ in range(many):
        result = times_fracs(result, [Fraction(value) for value in values])
    return result


def exchanged(p, n, above, below):
    """By each power of both."""
    total = []
    for at, value in enumerate(fracs(p)):
        part = times_fracs(power(above, at), power(below, n - at))
        total = sum_fracs(total, times_fracs([value], part))
    return total


def polynomials(chance):
    """Of each degree, some with the root 1 or -1, some with both."""
    for degree in range(8):
        for figures, bottoms in ((1, False), (1, True), (12, True)):
            yield chance.polynomial(degree, figures, bottoms)
        for roots in ((1,), (-1,), (1, -1), (1, 1, 1), (-1, -1, 0)):
            if degree + len(roots) <= 7:
                yield product(fracs(chance.polynomial(degree, 1)), *[[-root, 1] for root in roots])


class Ticks(RestCase):
    def look(self, p):
        told = self.asked(ticked, p)
        self.assertPolynomial(told)
        self.assertTrue(told == made(*exchanged(p, len(p) - 1, [-1, 1], [1, 1])))
        for n in range(len(p) - 1, 8):
            back = self.asked(unticked, p, n)
            self.assertPolynomial(back)
            self.assertTrue(back == made(*[value / 2 ** n for value in exchanged(p, n, [1, 1], [1, -1])]))
        self.assertTrue(self.asked(unticked, told, len(p) - 1) == p)
        return told

    def test_polynomials(self):
        for p in polynomials(Chance(161)):
            told = self.look(p)
            if worth(p, num(1)) != num(0):
                self.assertEqual(len(told), len(p))
                self.assertEqual(circle(told), three(p))
            else:
                self.assertLess(len(told), len(p))

    def test_known(self):
        self.assertEqual(self.look(made(2, 1)), made(1, 3))
        self.assertEqual(self.look(made(0, 1)), made(-1, 1))
        self.assertEqual(self.look(made(1, 0, 1)), made(2, 0, 2))
        self.assertEqual(unticked(made(1, 3), 1), made(2, 1))
        self.assertEqual(unticked(made(0, 1), 1), made(Fraction(1, 2), Fraction(1, 2)))

    def test_the_degree_falls_by_roots_at_1(self):
        self.assertEqual(self.look(made(-1, 1)), made(-2))
        self.assertEqual(self.look(product([-1, 1], [-1, 1], [2, 1])), product([4], [1, 3]))
        self.assertEqual(self.look(product(*[[-1, 1]] * 7)), made(-128))

    def test_roots_at_minus_1(self):
        self.assertEqual(self.look(made(1, 1)), made(0, 2))
        self.assertEqual(self.look(product(*[[1, 1]] * 7)), made(0, 0, 0, 0, 0, 0, 0, 128))
        self.assertEqual(unticked(made(1, 1), 1), made(1))

    def test_of_a_number_alone(self):
        for value in (1, -1, Fraction(2, 3)):
            self.assertEqual(self.look(made(value)), made(value))
            self.assertEqual(unticked(made(value), 0), made(value))
            self.assertEqual(unticked(made(value), 2), made(*[Fraction(value) / 4 * k for k in (1, -2, 1)]))

    def test_unticked_by_more_than_the_degree(self):
        self.assertEqual(unticked(made(1, 3), 3), product([Fraction(1, 8)], [4, 2], [1, -1], [1, -1]))
        self.assertEqual(len(unticked(made(1, 3), 7)), 8)

    def test_three_hundred_figures(self):
        self.look(Chance(162).polynomial(4, 300))

    def test_nought_is_refused(self):
        self.refused("NoPolynomial", ticked, [])
        for n in (-1, 0, 3, 7, 8, 100):
            self.refused("NoPolynomial", unticked, [], n)

    def test_other_numbers_are_refused(self):
        for degree in range(8):
            q = made(*[1] * (degree + 1))
            for n in (-100, -1, degree - 1, degree - 2, 8, 9, 10 ** 12):
                if n < degree or n > 7:
                    self.refused("NoDegree", unticked, q, n)
            self.assertPolynomial(self.asked(unticked, q, degree))
            self.assertPolynomial(self.asked(unticked, q, 7))


class Circle(RestCase):
    def look(self, q, numbers):
        told = self.asked(circle, q)
        self.assertIs(type(told), tuple)
        self.assertEqual([type(each) for each in told], [int] * 3)
        self.assertEqual(told, numbers)
        # Its numbers in the contrary order have each root but 0 turned over.
        at_0 = next(at for at, number in enumerate(q) if number[0])
        self.assertEqual(circle(q[at_0:][::-1]), (numbers[2], numbers[1], numbers[0] - at_0))

    def test_each_factor(self):
        for factor in circle_factors(Chance(163)):
            for often in (1, 2, 3):
                for lead in (1, -3):
                    self.look(*known_product(lead, [factor] * often))

    def test_many_factors(self):
        chance = Chance(164)
        for p, numbers in chosen_circle(chance, 200, 14):
            self.look(p, numbers)

    def test_known(self):
        self.look(made(0, 1), (1, 0, 0))
        self.look(made(1, 2), (1, 0, 0))
        self.look(made(2, 1), (0, 0, 1))
        self.look(made(1, 1), (0, 1, 0))
        self.look(made(-1, 1), (0, 1, 0))
        self.look(made(1, 0, 1), (0, 2, 0))
        self.look(made(1, 1, 1), (0, 2, 0))
        self.look(made(*[1] * 15), (0, 14, 0))
        self.look(made(2, *[0] * 13, 1), (0, 0, 14))
        self.look(made(1, *[0] * 13, 2), (14, 0, 0))
        self.look(made(*[0] * 14, 5), (14, 0, 0))
        self.look(product(*[[1, 1]] * 14), (0, 14, 0))

    def test_turned_over_roots(self):
        self.look(product([-2, 1], [Fraction(-1, 2), 1]), (1, 0, 1))
        self.look(product([-2, 1], [Fraction(-1, 2), 1], [3, 1]), (1, 0, 2))
        self.look(product([5, 2, 1], [1, 2, 5], [1, 1], [-1, 1], [0, 1]), (3, 2, 2))

    def test_very_near_to_the_circle(self):
        hair = Fraction(1, 10 ** 12)
        self.look(made(-1 + hair, 1), (1, 0, 0))
        self.look(made(-1 - hair, 1), (0, 0, 1))
        self.look(made(1 - hair, Fraction(6, 5), 1), (2, 0, 0))
        self.look(made(1 + hair, Fraction(6, 5), 1), (0, 0, 2))

    def test_of_a_number_alone(self):
        for value in (1, -1, Fraction(2, 3)):
            self.assertEqual(self.asked(circle, made(value)), (0, 0, 0))

    def test_degree_14_of_many_figures(self):
        chance = Chance(165)
        p = chance.polynomial(14, 12)
        self.assertEqual(sum(self.asked(circle, p)), 14)
        far = abs(frac(num(chance.fraction(300)))) + 1
        self.look(product([far, 1], [1, far], [1, 0, 1]), (1, 2, 1))

    def test_nought_is_refused(self):
        self.refused("NoPolynomial", circle, [])

    def test_ticked_ones_have_the_three_numbers(self):
        for p, numbers in known_polynomials(Chance(166), 120, 7):
            if worth(p, num(1)) != num(0):
                self.assertEqual(circle(ticked(p)), numbers)
