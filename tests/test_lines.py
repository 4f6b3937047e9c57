from fractions import Fraction

from helper import Chance, RestCase, factors, frac, fracs, made, num, product
from restward.lines import line_of
from restward.parts import from_parts
from restward.polys import shifted
from restward.three import three

HAIRS = (num(1), num(1, 1000000), num(3, 7), num(9999999), num(1, 9999999))


class Far:
    """A real number: the root, with that sign, of a number from 0 on."""

    def __init__(self, sign, square):
        self.sign, self.square = sign, Fraction(square)

    def is_below(self, value):
        if self.sign < 0:
            return value >= 0 or value * value < self.square
        return value > 0 and value * value > self.square


def number(value):
    value = Fraction(value)
    return Far(-1 if value < 0 else 1, value * value)


class Lines(RestCase):
    def look(self, p, hair, greatest=None):
        told = self.asked(line_of, p, hair)
        self.assertIs(type(told), tuple)
        self.assertEqual(len(told), 2)
        for each in told:
            self.assertNumber(each)
        low, high = fracs(told)
        self.assertGreater(high - low, 0)
        self.assertLessEqual(high - low, frac(hair))
        if greatest is None:
            self.assertEqual(three(shifted(p, told[1]))[0], len(p) - 1)
            self.assertLess(three(shifted(p, told[0]))[0], len(p) - 1)
        else:
            self.assertTrue(greatest.is_below(high))
            self.assertFalse(greatest.is_below(low))
        return low, high

    def look_at_all_hairs(self, p, greatest=None):
        for hair in HAIRS:
            self.look(p, hair, greatest)

    def test_known_factors(self):
        chance = Chance(241)
        known = [(factor, Fraction(-factor[-2], 2 if len(factor) == 3 else 1)) for factor, numbers in factors(chance)
                 if len(factor) == 2 or len(factor) == 3 and factor[1] != 0]
        for _ in range(60):
            chosen, room = [], chance.whole(2, 7)
            while room >= 2:
                chosen.append(chance.pick(known))
                room -= len(chosen[-1][0]) - 1
            p = product([chance.fraction(12) or 1], *[factor for factor, part in chosen])
            self.look(p, chance.pick(HAIRS), number(max(part for factor, part in chosen)))

    def test_the_greatest_is_a_number(self):
        self.look_at_all_hairs(made(-3, 1), number(3))
        self.look_at_all_hairs(made(3, 1), number(-3))
        self.look_at_all_hairs(made(0, 1), number(0))
        self.look_at_all_hairs(made(0, -5), number(0))
        self.look_at_all_hairs(product([1, 1], [2, 1], [7, 1]), number(-1))
        self.look_at_all_hairs(product([Fraction(-1, 3), 1], [2, 1], [1, 0, 1]), number(Fraction(1, 3)))
        self.look_at_all_hairs(made(*[0] * 7, Fraction(-2, 3)), number(0))

    def test_the_greatest_is_none(self):
        self.look_at_all_hairs(made(-2, 0, 1), Far(1, 2))
        self.look_at_all_hairs(product([-2, 4, 1]), None)
        self.look_at_all_hairs(product([7, 6, 1], [9, 1]), None)
        # The root of 2, less 3.
        low, high = self.look(made(7, 6, 1), num(1, 1000000))
        self.assertTrue(0 < low + 3 and (low + 3) ** 2 <= 2 < (high + 3) ** 2)

    def test_the_greatest_stands_often(self):
        self.look_at_all_hairs(product(*[[2, 1]] * 7), number(-2))
        self.look_at_all_hairs(product([-2, 0, 1], [-2, 0, 1], [-2, 0, 1]), Far(1, 2))
        self.look_at_all_hairs(product([5, 4, 1], [5, 4, 1], [9, 1]), number(-2))
        self.look_at_all_hairs(product([5, 4, 1], [8, 4, 1], [2, 1]), number(-2))

    def test_the_greatest_is_that_of_two_roots(self):
        self.look_at_all_hairs(made(1, 0, 1), number(0))
        self.look_at_all_hairs(product([5, -2, 1], [1, 1]), number(1))
        self.look_at_all_hairs(product([10, 2, 1], [3, 1], [4, 1]), number(-1))
        # The real parts are the roots of 2, and less than these.
        self.look_at_all_hairs(made(9, 0, -2, 0, 1), Far(1, 2))
        self.look_at_all_hairs(product([9, 0, -2, 0, 1], [-1, 1], [5, 1]), Far(1, 2))
        self.look_at_all_hairs(made(1, 0, 0, 0, 1), Far(1, Fraction(1, 2)))

    def test_leads_below_0(self):
        self.look_at_all_hairs(product([-7], [5, -2, 1], [1, 1]), number(1))
        self.look_at_all_hairs(product([Fraction(-1, 9)], [1, 1], [2, 1]), number(-1))

    def test_by_chance(self):
        chance = Chance(242)
        for degree in range(1, 8):
            for figures in (1, 1, 1, 12, 12):
                self.look(chance.polynomial(degree, figures), chance.pick(HAIRS))
        self.look(chance.polynomial(3, 300), num(1, 1000000))
        self.look(chance.polynomial(7, 100, False), num(1))

    def test_far_roots(self):
        far = 10 ** 299
        self.look(made(far, 1), num(1, 1000000), number(-far))
        self.look(made(-far, 1), num(1, 1000000), number(far))
        self.look(made(-1, far), num(1, 1000000), number(Fraction(1, far)))
        self.look(made(1, far, 1), num(1, 1000000))
        self.look(made(far, -far, 3, 1), num(1))

    def test_what_was_told_may_be_asked_of_again(self):
        chance = Chance(243)
        p = from_parts(made(*[abs(chance.fraction(40)) + 1 for _ in range(7)]), num(chance.fraction(40)))
        low, high = self.look(p, num(1, 1000000))
        self.assertLessEqual(low, 0)

    def test_nought_and_degree_0_are_refused(self):
        for hair in HAIRS:
            self.refused("NoPolynomial", line_of, [], hair)
            self.refused("NoPolynomial", line_of, made(3), hair)
            self.refused("NoPolynomial", line_of, made(Fraction(-1, 7)), hair)
