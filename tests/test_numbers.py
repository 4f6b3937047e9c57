from fractions import Fraction
from math import gcd

from helper import Chance, RestCase, frac, num
from restward.numbers import (
    common_divisor, fraction, is_below, is_number, less, over, plus, sign_of, times,
)

SMALL = [num(top, bottom) for top in range(-4, 5) for bottom in range(1, 5)]


def far_numbers():
    chance = Chance(4)
    numbers = [num(chance.fraction(figures, bottoms))
               for figures in (12, 300) for bottoms in (True, False) for _ in range(6)]
    return numbers + [num(-top, bottom) for top, bottom in numbers]


class Fractions(RestCase):
    def test_small_wholes(self):
        for top in range(-12, 13):
            for bottom in range(-12, 13):
                if bottom:
                    told = self.asked(fraction, top, bottom)
                    self.assertNumber(told)
                    self.assertEqual(told, num(top, bottom))

    def test_nought_is_0_over_1(self):
        for bottom in (1, -1, 7, -7, 10 ** 299, -10 ** 299):
            self.assertEqual(fraction(0, bottom), (0, 1))

    def test_over_0_is_refused(self):
        for top in (0, 1, -1, 10 ** 299):
            self.refused("NoFraction", fraction, top, 0)

    def test_three_hundred_figures(self):
        chance = Chance(1)
        for figures in (12, 299, 300):
            for _ in range(20):
                top, bottom = chance.whole(1, 10 ** figures - 1), chance.whole(1, 10 ** figures - 1)
                self.assertEqual(fraction(-top * 6, bottom * -4), num(top * 3, bottom * 2))


class Sums(RestCase):
    def look(self, one, other):
        a, b = frac(one), frac(other)
        for function, value in ((plus, a + b), (less, a - b), (times, a * b)):
            told = self.asked(function, one, other)
            self.assertNumber(told)
            self.assertEqual(told, num(value))
        if b:
            told = self.asked(over, one, other)
            self.assertNumber(told)
            self.assertEqual(told, num(a / b))
        else:
            self.refused("NoFraction", over, one, other)
        self.assertIs(is_below(one, other), a < b)

    def test_small_numbers(self):
        for one in SMALL:
            for other in SMALL:
                self.look(one, other)

    def test_numbers_of_many_figures(self):
        numbers = far_numbers() + [(0, 1), (1, 1)]
        for one in numbers:
            for other in numbers:
                self.look(one, other)

    def test_alike_but_for_little(self):
        one = num(10 ** 12 + 1, 10 ** 12)
        self.assertIs(is_below(one, num(10 ** 12 + 2, 10 ** 12)), True)
        self.assertIs(is_below(one, one), False)
        self.assertIs(is_below(num(-1, 3), num(-1, 4)), True)

    def test_over_0_is_refused(self):
        self.refused("NoFraction", over, (0, 1), (0, 1))
        self.refused("NoFraction", over, (3, 4), (0, 1))


class Signs(RestCase):
    def test_signs(self):
        for number in SMALL + far_numbers():
            told = sign_of(number)
            self.assertIs(type(told), int)
            self.assertEqual(told, (number[0] > 0) - (number[0] < 0))


class AnyThing(RestCase):
    def test_numbers(self):
        for number in SMALL + far_numbers():
            self.assertIs(is_number(number), True)

    def test_what_is_none(self):
        for thing in ((2, 4), (0, 2), (0, -1), (1, 0), (0, 0), (1, -2), (True, 1), (1, True), (False, 1), [1, 2],
                      (1,), (1, 2, 3), (), 1, True, None, "1/2", ("1", 2), (None, 1), ((1, 1), 1), (-4, 6)):
            self.assertIs(is_number(thing), False, thing)


class Divisors(RestCase):
    def test_short_and_long(self):
        chance = Chance(9)
        for bits in (10, 100, 3000, 5990, 6010, 7000, 20000, 60000):
            for shared_bits in (1, 40, bits // 2):
                shared = chance.whole(1, 2 ** shared_bits)
                one = shared * chance.whole(0, 2 ** bits)
                other = shared * chance.whole(0, 2 ** bits)
                for a, b in ((one, other), (-one, other), (one, -other), (other, one), (one, one), (one, 0),
                             (one, one + shared), (one * 3, one), (one, other ** 2)):
                    self.assertEqual(common_divisor(a, b), gcd(a, b))

    def test_heads_that_tell_no_step(self):
        for one, other in ((2 ** 9000, 1), (2 ** 9000, 2 ** 9000 - 1), (2 ** 20000, 2 ** 7000 + 1),
                           (2 ** 9000 - 1, 2 ** 8999), (3 ** 6000, 3 ** 5000 * 2), (2 ** 9000, 2 ** 8000)):
            self.assertEqual(common_divisor(one, other), gcd(one, other))
            self.assertEqual(common_divisor(other, one), gcd(one, other))

    def test_quotients_of_one_alone(self):
        one, other = 1, 1
        while other.bit_length() < 12000:
            one, other = other, one + other
        self.assertEqual(common_divisor(one * 77, other * 77), 77)
        self.assertEqual(fraction(one * 77, other * 77), (one, other))
        self.assertEqual(Fraction(one, other), frac(fraction(one, other)))
