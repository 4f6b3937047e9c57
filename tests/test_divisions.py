from fractions import Fraction

from helper import Chance, RestCase, fracs, made, num, product, strip, sum_fracs, times_fracs
from restward.divisions import divisions, undivided


def with_powers(p, odd):
    """p by its odd powers alone, or its even ones."""
    return strip([value if at % 2 == odd else Fraction(0) for at, value in enumerate(fracs(p))])


def odd_polynomial(chance, degree, figures):
    values = [chance.fraction(figures) if at % 2 == degree % 2 else Fraction(0) for at in range(degree)]
    return made(*values, chance.fraction(figures) or 1)


class There(RestCase):
    def look(self, p):
        told = self.asked(divisions, p)
        self.assertIs(type(told), tuple)
        quotients, last = told
        self.assertIs(type(quotients), list)
        for each in quotients + [last]:
            self.assertPolynomial(each)
        # The row is gone along from its end: each rest is of a lower degree than what it was divided by.
        one, other = fracs(last), []
        for quotient in reversed(quotients):
            self.assertLess(len(other), len(one))
            one, other = sum_fracs(times_fracs(fracs(quotient), one), other), one
        degree = len(p) - 1
        self.assertEqual(one, with_powers(p, degree % 2))
        self.assertEqual(other if quotients else [], with_powers(p, 1 - degree % 2))
        self.assertTrue(self.asked(undivided, quotients, last) == p)
        return told

    def test_known(self):
        self.assertEqual(self.look(made(6, 11, 6, 1)),
                         ([made(0, Fraction(1, 6)), made(0, Fraction(3, 5)), made(0, Fraction(5, 3))], made(6)))
        self.assertEqual(self.look(made(1, 1)), ([made(0, 1)], made(1)))
        self.assertEqual(self.look(made(-2, 3)), ([made(0, Fraction(-3, 2))], made(-2)))

    def test_quotients_of_higher_degrees(self):
        self.assertEqual(self.look(made(1, 0, 0, 1)), ([made(0, 0, 0, 1)], made(1)))
        self.assertEqual(self.look(made(2, 0, 0, 0, 0, 1)), ([made(0, 0, 0, 0, 0, Fraction(1, 2))], made(2)))
        self.look(made(1, 1, 0, 0, 0, 0, 0, 1))
        self.look(made(1, 0, 1, 1, 0, 0, 0, 0, 1))

    def test_no_quotient(self):
        for p in (made(3), made(0, 1), made(0, 0, -2), made(1, 0, 1), made(0, 2, 0, 5), made(4, 0, 0, 0, 1),
                  made(*([0] * 14), Fraction(1, 3))):
            self.assertEqual(self.look(p), ([], p))

    def test_all_degrees(self):
        chance = Chance(61)
        for degree in range(15):
            for figures, bottoms in ((1, False), (1, True), (12, False), (12, True)):
                self.look(chance.polynomial(degree, figures, bottoms))
        self.look(chance.polynomial(6, 300))

    def test_with_noughts_within(self):
        chance = Chance(62)
        for _ in range(150):
            values = [chance.pick([0, 0, 0, 1, -1, 2, Fraction(1, 3)]) for _ in range(chance.whole(0, 14))]
            self.look(made(*values, chance.pick([1, -1, 5])))

    def test_a_common_part(self):
        self.assertEqual(self.look(product([1, 0, 1], [1, 1]))[1], made(1, 0, 1))
        self.assertEqual(self.look(product([0, 1], [0, 1], [2, 1]))[1], made(0, 0, 2))

    def test_nought_is_refused(self):
        self.refused("NoPolynomial", divisions, [])


class Back(RestCase):
    def look(self, quotients, last):
        p = self.asked(undivided, quotients, last)
        self.assertPolynomial(p)
        self.assertTrue(divisions(p) == (quotients, last))

    def test_rows(self):
        chance = Chance(63)
        for _ in range(120):
            figures = chance.pick([1, 12])
            left = 14
            last_degree = chance.whole(0, 6)
            left -= last_degree
            quotients = []
            while left > 0 and chance.whole(0, 5):
                degree = min(chance.pick([1, 1, 1, 3, 5]), left - (left + 1) % 2)
                quotients.append(odd_polynomial(chance, degree, figures))
                left -= degree
            self.look(quotients, odd_polynomial(chance, last_degree, figures))

    def test_known(self):
        self.assertEqual(self.asked(undivided, [made(0, 1)], made(2)), made(2, 2))
        self.assertEqual(self.asked(undivided, [], made(2)), made(2))
        self.assertEqual(self.asked(undivided, [made(0, 1), made(0, 2)], made(3)), made(3, 6, 6))

    def test_fourteen_degrees_together(self):
        self.look([made(0, 1)] * 14, made(-1))
        self.look([made(0, 1)] * 8, made(5, 0, 0, 0, 3, 0, 2))
        self.look([made(0, 1), made(0, 2, 0, -1)] * 2, made(5, 0, 0, 0, 3, 0, 2))
        self.look([], made(*([0] * 14), 1))
        self.look([made(*([0] * 13), 1)], made(0, 1))

    def test_more_than_fourteen(self):
        self.refused("NoRow", undivided, [made(0, 1)] * 15, made(1))
        self.refused("NoRow", undivided, [made(0, 1)] * 14, made(0, 1))
        self.refused("NoRow", undivided, [], made(*([0] * 15), 1))
        self.refused("NoRow", undivided, [made(*([0] * 15), 1)], made(1))
        self.refused("NoRow", undivided, [made(0, 0, 0, 1)] * 5, made(1))

    def test_last_ones_that_are_none(self):
        good = [made(0, 1)]
        for last in ([], made(1, 1), made(0, 1, 1), made(1, 0, 0, 1), made(1, 0), made(0), made(0, 1, 0), None, True, 3,
                     "x", (), tuple(made(1)), [1], [None], [(2, 4)], [(1, 0)], [(1, -1)], [(True, 1)], [(1, True)],
                     [[1, 1]], [made(1)], ((1, 1),), [(0, 1), (0, 1)], [(1, 1), "x", (1, 1)], [(1, 1, 1)], [()]):
            self.refused("NoRow", undivided, good, last)
            self.refused("NoRow", undivided, [], last)

    def test_quotients_that_are_none(self):
        good = made(1)
        for quotient in ([], made(1), made(0, 1, 1), made(1, 1), made(0, 0, 1), made(1, 0, 0, 1), made(0, 1, 0),
                         made(0, 0), None, True, 3, "x", (), tuple(made(0, 1)), [0, 1], [(0, 1), (2, 2)],
                         [(0, 1), (True, 1)], [(False, 1), (1, 1)], [(0, 2), (1, 1)], [None, (1, 1)],
                         [[0, 1], [1, 1]], [(0, 1), None], [(0, 1), (1, -1)], [made(0, 1)]):
            self.refused("NoRow", undivided, [quotient], good)
            self.refused("NoRow", undivided, [made(0, 1), quotient], good)
            self.refused("NoRow", undivided, [quotient, made(0, 1)], good)

    def test_things_of_other_kinds_in_either_place(self):
        things = (None, True, False, 0, 7, "x", "", (), (made(0, 1),), tuple(made(0, 1)), num(1),
                  [[]], [[[]]], [made(1)], made(0, 1), "0 1", ([made(0, 1)],), [None], [True], ["x"], [5])
        for thing in things:
            self.refused("NoRow", undivided, thing, made(1))
            for other in things:
                self.refused("NoRow", undivided, thing, other)
        self.refused("NoRow", undivided, (), made(1))
        self.refused("NoRow", undivided, made(1), [made(0, 1)])

    def test_what_was_told_put_otherwise(self):
        quotients, last = divisions(made(6, 11, 6, 1, 4, Fraction(1, 7)))
        self.refused("NoRow", undivided, quotients, quotients)
        self.refused("NoRow", undivided, quotients + [last], last)
        self.refused("NoRow", undivided, tuple(quotients), last)
        self.refused("NoRow", undivided, [tuple(each) for each in quotients], last)
        self.refused("NoRow", undivided, (quotients, last), None)
        self.refused("NoRow", undivided, [each[1:] for each in quotients], last)
        self.assertPolynomial(self.asked(undivided, quotients[1:], last))
