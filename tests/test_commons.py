from fractions import Fraction

from helper import Chance, RestCase, frac, fracs, made, num, product, strip, sum_fracs, times_fracs
from restward.commons import common, divided, parted


def degree(p):
    return len(p) - 1


class Divided(RestCase):
    def look(self, p, q):
        told = self.asked(divided, p, q)
        self.assertIs(type(told), tuple)
        quotient, rest = told
        self.assertPolynomial(quotient)
        self.assertPolynomial(rest)
        self.assertLess(len(rest), len(q))
        self.assertEqual(sum_fracs(times_fracs(fracs(quotient), fracs(q)), fracs(rest)), fracs(p))
        return told

    def test_all_degrees(self):
        chance = Chance(21)
        for p_degree in range(15):
            for q_degree in range(15):
                figures, bottoms = chance.pick([(1, False), (1, True), (12, True), (12, False)])
                self.look(chance.polynomial(p_degree, figures, bottoms), chance.polynomial(q_degree, figures, bottoms))

    def test_with_noughts_within(self):
        chance = Chance(22)
        for _ in range(60):
            p = made(*strip([chance.pick([0, 0, 1, -2, Fraction(1, 3)]) for _ in range(chance.whole(0, 15))]))
            q = made(*strip([chance.pick([0, 0, 1, -2, 3]) for _ in range(8)] + [chance.pick([1, -1, -2])]))
            self.look(p, q)

    def test_three_hundred_figures(self):
        chance = Chance(23)
        self.look(chance.polynomial(14, 300, False), chance.polynomial(7, 300, False))
        self.look(chance.polynomial(4, 300), chance.polynomial(2, 300))

    def test_by_itself(self):
        chance = Chance(24)
        for many in range(15):
            p = chance.polynomial(many, 12)
            self.assertEqual(self.look(p, p), (made(1), []))

    def test_by_a_number_alone(self):
        self.assertEqual(self.look(made(2, 4, 6), made(-4)), (made(Fraction(-1, 2), -1, Fraction(-3, 2)), []))
        self.assertEqual(self.look(made(5), made(Fraction(2, 3))), (made(Fraction(15, 2)), []))

    def test_by_a_higher_degree(self):
        self.assertEqual(self.look(made(1, 2), made(1, 2, 3)), ([], made(1, 2)))

    def test_nought_divided(self):
        self.assertEqual(self.look([], made(1, 2)), ([], []))
        self.assertEqual(self.look([], made(3)), ([], []))

    def test_known(self):
        self.assertEqual(self.look(made(-1, 0, 0, 1), made(-1, 1)), (made(1, 1, 1), []))
        self.assertEqual(self.look(made(5, 0, 1), made(1, 2)),
                         (made(Fraction(-1, 4), Fraction(1, 2)), made(Fraction(21, 4))))

    def test_by_nought_is_refused(self):
        self.refused("NoPolynomial", divided, made(1, 2), [])
        self.refused("NoPolynomial", divided, [], [])

    def test_what_was_told_is_handed_in_again(self):
        chance = Chance(25)
        p, q = chance.polynomial(14, 12), chance.polynomial(9, 12)
        while q:
            p, q = q, self.look(p, q)[1]


class Common(RestCase):
    def look(self, p, q):
        told = self.asked(common, p, q)
        self.assertIs(type(told), tuple)
        self.assertEqual(len(told), 3)
        part, one, other = told
        for each in told:
            self.assertPolynomial(each)
        made_by_both = sum_fracs(times_fracs(fracs(one), fracs(p)), times_fracs(fracs(other), fracs(q)))
        self.assertEqual(made_by_both, fracs(part))
        if part:
            self.assertEqual(part[-1], (1, 1))
            self.assertEqual(divided(p, part)[1], [])
            self.assertEqual(divided(q, part)[1], [])
        return part

    def test_known_common_parts(self):
        chance = Chance(31)
        for figures, bottoms in ((1, False), (1, True), (12, False), (12, True)):
            for shared_degree in range(0, 8):
                shared = chance.values(shared_degree, figures, bottoms) + [Fraction(1)]
                one = chance.polynomial(chance.whole(0, 14 - shared_degree), figures, bottoms)
                other = chance.polynomial(chance.whole(0, 14 - shared_degree), figures, bottoms)
                p, q = product(shared, fracs(one)), product(shared, fracs(other))
                part = self.look(p, q)
                self.assertGreaterEqual(degree(part), shared_degree)
                self.assertEqual(divided(part, made(*shared))[1], [])
                if figures == 12:
                    # Chance finds no further common root of twelve figures.
                    self.assertEqual(part, made(*shared))

    def test_often_the_same_roots(self):
        p = product([-1, 1], [-1, 1], [-1, 1], [2, 1], [1, 0, 1])
        q = product([-1, 1], [-1, 1], [2, 1], [2, 1], [3, 0, 1])
        self.assertEqual(self.look(p, q), product([-1, 1], [-1, 1], [2, 1]))

    def test_of_two_noughts(self):
        told = self.asked(common, [], [])
        self.assertEqual(told[0], [])
        self.look([], [])

    def test_of_one_nought(self):
        self.assertEqual(self.look(made(2, 4), []), made(Fraction(1, 2), 1))
        self.assertEqual(self.look([], made(2, -4)), made(Fraction(-1, 2), 1))
        self.assertEqual(self.look([], made(-7)), made(1))

    def test_of_a_number_alone(self):
        self.assertEqual(self.look(made(6), made(4)), made(1))
        self.assertEqual(self.look(made(-6), made(0, 4)), made(1))
        self.assertEqual(self.look(made(1, 2, 3), made(Fraction(-2, 5))), made(1))

    def test_of_itself_and_of_a_multiple(self):
        chance = Chance(32)
        for many in range(0, 15, 2):
            p = chance.polynomial(many, 12)
            lead = frac(p[-1])
            monic = made(*[value / lead for value in fracs(p)])
            self.assertEqual(self.look(p, p), monic)
            self.assertEqual(self.look(p, made(*[value * -3 for value in fracs(p)])), monic)

    def test_greatest_degrees_without_a_common_root(self):
        chance = Chance(33)
        self.assertEqual(self.look(chance.polynomial(14, 12, False), chance.polynomial(14, 12, False)), made(1))
        self.assertEqual(self.look(chance.polynomial(14, 3), chance.polynomial(13, 3)), made(1))

    def test_gaps_in_the_rests(self):
        self.look(made(-5, 2, 8, -3, -3, 0, 1, 0, 1), made(21, -9, -4, 0, 5, 0, 3))
        self.look(made(1, 0, 0, 0, 0, 0, 0, 1), made(1, 0, 0, 1))
        self.assertEqual(self.look(made(-1, 0, 0, 0, 0, 0, 1), made(-1, 0, 0, 0, 1)), made(-1, 0, 1))

    def test_three_hundred_figures(self):
        chance = Chance(34)
        self.look(chance.polynomial(3, 300), chance.polynomial(2, 300))
        self.look(chance.polynomial(8, 300, False), chance.polynomial(8, 300, False))


class Parted(RestCase):
    def look(self, lead, parts):
        """parts: a dict from how often to a list of values, the lead 1, without common roots or such that stand twice."""
        factors = [part for often, part in parts.items() for _ in range(often)]
        p = product([lead], *factors)
        told = self.asked(parted, p)
        self.assertIs(type(told), list)
        for each in told:
            self.assertIs(type(each), tuple)
            self.assertPolynomial(each[0])
            self.assertIs(type(each[1]), int)
        self.assertEqual(told, [(made(*parts[often]), often) for often in sorted(parts)])

    def test_roots_one_to_four_times(self):
        self.look(3, {1: [-1, 1]})
        self.look(-3, {2: [-1, 1]})
        self.look(Fraction(2, 7), {1: [2, 1], 2: [Fraction(-1, 2), 1], 3: [5, 1], 4: [-7, 1]})
        self.look(-1, {1: [1, 0, 1], 2: [0, 1], 3: [Fraction(2, 3), 0, 1], 4: [1, 1]})
        self.look(-1, {4: [6, -5, 1]})
        self.look(1, {3: [1, 1, 1, 1, 1]})
        self.look(5, {2: [-2, 0, 1], 4: [3, 0, 1]})
        self.look(5, {1: [-2, 0, 0, 0, 1], 3: [0, 1]})

    def test_all_often(self):
        self.look(2, {14: [0, 1]})
        self.look(2, {14: [Fraction(1, 3), 1]})
        self.look(2, {7: [1, 0, 1]})
        self.look(Fraction(-1, 9), {5: [1, 1], 9: [-1, 1]})

    def test_none_twice(self):
        chance = Chance(41)
        for many in range(1, 15):
            values = chance.values(many, 12) + [Fraction(1)]
            self.look(chance.fraction(12) or 1, {1: values})

    def test_twelve_figures(self):
        chance = Chance(42)
        for _ in range(6):
            parts = {1: chance.values(2, 12) + [1], 2: chance.values(2, 12) + [1], 4: chance.values(1, 12) + [1]}
            self.look(chance.fraction(12) or 1, parts)

    def test_three_hundred_figures(self):
        chance = Chance(43)
        self.look(chance.fraction(300), {1: chance.values(1, 100) + [1], 2: chance.values(1, 100) + [1]})

    def test_a_number_alone(self):
        for p in (made(1), made(-5), made(Fraction(2, 3))):
            self.assertEqual(self.asked(parted, p), [])

    def test_nought_is_refused(self):
        self.refused("NoPolynomial", parted, [])

    def test_parts_are_the_askers_own(self):
        p = product([1, 1], [2, 1], [2, 1])
        told = parted(p)
        told[0][0].append(num(9))
        told.pop()
        self.assertEqual(parted(p), [(made(1, 1), 1), (made(2, 1), 2)])
