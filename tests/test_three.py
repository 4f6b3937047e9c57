from fractions import Fraction

from helper import Chance, RestCase, chosen_factors, cross, factors, known_product, level, line, made, pair, upright
from restward.divisions import undivided
from restward.polys import mirrored
from restward.three import dies, three


class Three(RestCase):
    def look(self, lead, chosen):
        p, expected = known_product(lead, chosen)
        told = self.asked(three, p)
        self.assertIs(type(told), tuple)
        self.assertEqual([type(each) for each in told], [int] * 3)
        self.assertEqual(told, expected, chosen)
        self.assertIs(self.asked(dies, p), expected[0] == len(p) - 1)
        self.assertEqual(three(mirrored(p)), expected[::-1])

    def test_each_factor(self):
        for factor in factors(Chance(71)):
            for often in (1, 2, 3):
                for lead in (1, -3):
                    self.look(lead, [factor] * often)

    def test_many_factors(self):
        chance = Chance(72)
        known = factors(chance)
        for _ in range(300):
            chosen = chosen_factors(chance, known, chance.whole(1, 14))
            self.look(chance.fraction(12) or 1, chosen)

    def test_degree_14_on_the_axis(self):
        self.look(1, [upright(2)] * 7)
        self.look(1, [upright(v) for v in range(1, 8)])
        self.look(-1, [line(0)] * 14)
        self.look(1, [line(0)] * 3 + [upright(1)] * 2 + [cross(3)] + [level(2)])
        self.look(5, [cross(1), cross(1), level(2), level(2)])

    def test_all_die(self):
        self.look(1, [line(Fraction(-k)) for k in range(1, 15)])
        self.look(-1, [pair(Fraction(-1, k), Fraction(k)) for k in range(1, 8)])

    def test_three_hundred_figures(self):
        chance = Chance(73)
        self.look(chance.fraction(300), [line(chance.fraction(300)), line(chance.fraction(300)), upright(2)])

    def test_by_quotients(self):
        chance = Chance(74)
        for _ in range(60):
            leads = [chance.pick([1, -1]) * (abs(chance.fraction(12)) + 1) for _ in range(chance.whole(0, 14))]
            p = undivided([made(0, lead) for lead in leads], made(chance.pick([1, -2])))
            left = len([lead for lead in leads if lead > 0])
            self.assertEqual(three(p), (left, 0, len(leads) - left))
            self.assertIs(dies(p), left == len(leads))

    def test_by_quotients_of_higher_degrees(self):
        # x^3 + 1 has the root -1 and two right ones; x^5 + 1 has three left ones.
        self.assertEqual(three(made(1, 0, 0, 1)), (1, 0, 2))
        self.assertEqual(three(made(-1, 0, 0, 1)), (2, 0, 1))
        self.assertEqual(three(made(1, 0, 0, 0, 0, 1)), (3, 0, 2))
        self.assertEqual(three(made(-1, 0, 0, 0, 0, 1)), (2, 0, 3))
        self.assertEqual(three(made(1, 0, 0, 0, 0, 0, 0, 1)), (3, 0, 4))

    def test_even_or_odd_powers_alone(self):
        self.assertEqual(three(made(1, 0, 3, 0, 1)), (0, 4, 0))
        self.assertEqual(three(made(0, 1, 0, 3, 0, 1)), (0, 5, 0))
        self.assertEqual(three(made(-1, 0, 1)), (1, 0, 1))
        self.assertEqual(three(made(0, -1, 0, 1)), (1, 1, 1))
        self.assertEqual(three(made(1, 0, 0, 0, 0, 0, 1)), (2, 2, 2))

    def test_of_a_number_alone(self):
        for value in (1, -1, Fraction(2, 3)):
            self.assertEqual(self.asked(three, made(value)), (0, 0, 0))
            self.assertIs(dies(made(value)), True)

    def test_nought(self):
        self.refused("NoPolynomial", three, [])
        self.assertIs(dies([]), False)

    def test_lead_and_signs_dont_suffice(self):
        # All numbers are above 0, yet two roots lie right.
        self.assertEqual(three(made(20, 1, 1, 1)), (1, 0, 2))
        self.assertIs(dies(made(20, 1, 1, 1)), False)
        self.assertEqual(three(made(1, 1, 1, 1)), (1, 2, 0))
