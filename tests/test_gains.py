from fractions import Fraction

from helper import Chance, RestCase, determinant_of, frac, fracs, known_polynomials, made, num, product, worth_frac
from restward.gains import gained, gains_of
from restward.stretches import narrowed, root_count, stretches_of
from restward.three import three


def with_gain(p, q, k):
    """p and k times q, added, by Python's own fractions."""
    longer = fracs(q) + [Fraction(0)] * (len(p) - len(q))
    return made(*[a + k * b for a, b in zip(fracs(p), longer)])


def steep_of(p):
    n = len(p) - 1
    return [[p[n - 1 - 2 * j + i] if 0 <= n - 1 - 2 * j + i <= n else num(0) for j in range(n)] for i in range(n)]


def all_die(p, q, k):
    return three(with_gain(p, q, k))[0] == len(p) - 1


def is_above(D, k, stretch):
    """Whether k is above the one root of D in a stretch, itself being none."""
    low, high = fracs(stretch)
    if k <= low or k >= high:
        return k >= high
    return root_count(D, num(low), num(k)) == 1


def is_in(D, gain, k):
    low, high = gain
    return (low is None or is_above(D, k, low)) and (high is None or not is_above(D, k, high))


def pairs():
    """p and q, of all degrees that may be."""
    chance = Chance(261)
    found = []
    for n in range(1, 6):
        for m in range(n):
            for figures, bottoms in ((1, False), (1, True), (12, True)):
                found.append((chance.polynomial(n, figures, bottoms), chance.polynomial(m, figures, bottoms)))
    dying = [p for p, numbers in known_polynomials(chance, 120, 5) if numbers[0] == len(p) - 1 > 0]
    for p in dying:
        q = chance.polynomial(chance.whole(0, len(p) - 2), chance.pick([1, 12]))
        found.append((p, q))
    for _ in range(60):
        n = chance.whole(2, 5)
        found.append((made(*[chance.whole(0, 4) for _ in range(n)], chance.pick([1, -1])),
                      made(*[chance.whole(-2, 2) for _ in range(chance.whole(0, n - 1))], 1)))
    return found


class Gained(RestCase):
    def test_gained(self):
        chance = Chance(262)
        for p, q in pairs():
            for k in (Fraction(0), Fraction(1), Fraction(-3, 7), chance.fraction(12)):
                told = self.asked(gained, p, q, num(k))
                self.assertPolynomial(told)
                self.assertEqual(told, with_gain(p, q, k))

    def test_known(self):
        self.assertEqual(gained(made(1, 2, 3), made(5, 7), num(2)), made(11, 16, 3))
        self.assertEqual(gained(made(1, 2, 3), made(5, 7), num(0)), made(1, 2, 3))
        self.assertEqual(gained(made(-5, 3), made(5), num(1)), made(0, 3))


class Gains(RestCase):
    def look_at_measure(self, p, q, D):
        self.assertPolynomial(D)
        self.assertLessEqual(len(D), len(p))
        for k in [Fraction(-1, 2), Fraction(7, 3)] + [Fraction(value) for value in range(-3, len(p))]:
            self.assertEqual(num(worth_frac(D, k)), determinant_of(steep_of(with_gain(p, q, k))))

    def look_at_end(self, D, end):
        if end is not None:
            self.assertIs(type(end), tuple)
            self.assertEqual(len(end), 2)
            for number in end:
                self.assertNumber(number)
            # What is no stretch of D would be refused.
            narrowed(D, end, num(1))

    def look(self, p, q):
        told = self.asked(gains_of, p, q)
        self.assertIs(type(told), tuple)
        self.assertEqual(len(told), 2)
        D, gains = told
        self.look_at_measure(p, q, D)
        self.assertIs(type(gains), list)
        for at, gain in enumerate(gains):
            self.assertIs(type(gain), tuple)
            self.assertEqual(len(gain), 2)
            self.look_at_end(D, gain[0])
            self.look_at_end(D, gain[1])
            self.assertTrue(at == 0 or gain[0] is not None)
            self.assertTrue(at == len(gains) - 1 or gain[1] is not None)
        if not D:
            self.assertEqual(gains, [])
            return D, gains
        self.look_at_points(p, q, D, gains)
        return D, gains

    def look_at_points(self, p, q, D, gains):
        """At each number all dies just where it lies in one stretch, and in no more than one."""
        roots = stretches_of(D)
        points = [Fraction(value) for value in (-100, -7, -1, 0, 1, 2, 13, 1000)] + [Fraction(1, 3), Fraction(-9, 8)]
        for stretch in roots:
            points += fracs(stretch) + fracs(narrowed(D, stretch, num(1, 10000)))
        for k in points:
            if worth_frac(D, k) == 0:
                self.assertFalse(all_die(p, q, k))
                self.assertFalse(any(self.holds_root(D, gain, k) for gain in gains))
            else:
                self.assertEqual(sum(is_in(D, gain, k) for gain in gains), int(all_die(p, q, k)))
        # As great as can be, and no root between: each ends at a root, with none in between.
        for low, high in gains:
            here = [at for at, stretch in enumerate(roots)
                    if is_in(D, (low, high), frac(stretch[0])) and is_in(D, (low, high), frac(stretch[1]))]
            self.assertEqual(here, [])

    def holds_root(self, D, gain, k):
        """Whether a root of D is between: just below and just above it all are in the same stretch."""
        near = Fraction(1, 10 ** 30)
        return is_in(D, gain, k - near) and is_in(D, gain, k + near)

    def test_pairs(self):
        many = [len(self.look(p, q)[1]) for p, q in pairs()]
        self.assertGreater(many.count(0), 20)
        self.assertGreater(many.count(1), 20)

    def around(self, D, end, root):
        self.assertTrue(frac(end[0]) < root < frac(end[1]), (end, root))

    def test_one_stretch(self):
        D, gains = self.look(product([1, 1], [1, 1], [1, 1]), made(1))
        self.assertEqual(D, product([1, 1], [8, -1]))
        self.assertEqual(len(gains), 1)
        self.around(D, gains[0][0], -1)
        self.around(D, gains[0][1], 8)

    def test_open_below_and_above(self):
        D, gains = self.look(made(1, 1), made(2))
        self.assertEqual(D, made(1, 2))
        self.assertEqual([gain[1] for gain in gains], [None])
        self.around(D, gains[0][0], Fraction(-1, 2))
        D, gains = self.look(made(1, 1), made(-2))
        self.assertEqual([gain[0] for gain in gains], [None])
        self.around(D, gains[0][1], Fraction(1, 2))
        D, gains = self.look(made(-1, -1), made(2))
        self.assertEqual([gain[0] for gain in gains], [None])
        D, gains = self.look(made(1, 2, 1), made(1, 1))
        self.assertEqual(D, product([2, 1], [1, 1]))
        self.assertEqual([gain[1] for gain in gains], [None])
        self.around(D, gains[0][0], -1)

    def test_several_stretches(self):
        # x x x + (1 + k) x x + (1 + k) x + 1 + 5 / 2 k: from -2 / 5 to 0, and from 1 / 2 on.
        D, gains = self.look(made(1, 1, 1, 1), made(Fraction(5, 2), 1, 1))
        self.assertEqual(len(gains), 2)
        self.around(D, gains[0][0], Fraction(-2, 5))
        self.around(D, gains[0][1], 0)
        self.around(D, gains[1][0], Fraction(1, 2))
        self.assertIsNone(gains[1][1])

    def test_a_root_at_which_all_dies_on_both_sides(self):
        D, gains = self.look(made(1, 1, 1, 1), made(2, 1, 1))
        self.assertEqual(D, product([0, 0, 1], [1, 2]))
        self.assertEqual(len(gains), 2)
        self.around(D, gains[0][0], Fraction(-1, 2))
        self.around(D, gains[0][1], 0)
        self.around(D, gains[1][0], 0)
        self.assertIsNone(gains[1][1])

    def test_a_root_that_stands_often(self):
        D, gains = self.look(made(1, 1, 1), made(1, 1))
        self.assertEqual(D, product([1, 1], [1, 1]))
        self.assertEqual(len(gains), 1)
        self.around(D, gains[0][0], -1)
        self.assertIsNone(gains[0][1])

    def test_no_stretch(self):
        for p, q in ((made(1, -5, 1), made(1)), (made(5, 0, 0, 1), made(1)), (made(1, 1, 0, 1), made(1, 1)),
                     (made(-1, 0, 3, 0, 1), made(0, 0, 1))):
            self.assertEqual(self.look(p, q)[1], [])

    def test_measure_nought(self):
        for p, q in ((made(0, 1, 0, 1), made(0, 1)), (made(1, 0, 1), made(1)), (made(0, 0, 0, 0, 0, 1), made(0, 1)),
                     (product([0, 1], [1, 1]), made(0, 1)), (made(1, 0, 2, 0, 1), made(0, 0, 1))):
            self.assertEqual(self.look(p, q), ([], []))

    def test_measure_a_number(self):
        D, gains = self.look(made(2, 3, 0, 1), made(0, 1))
        self.assertEqual((D, gains), (made(-4), []))

    def test_measure_without_a_real_root(self):
        D, gains = self.look(made(1, 0, 0, 1), made(0, 1, -1))
        self.assertEqual(D, made(-1, 0, -1))
        self.assertEqual(gains, [])

    def test_one_and_five(self):
        self.look(made(Fraction(1, 3), Fraction(-2, 7)), made(Fraction(9, 5)))
        five = product([1, 1], [2, 1], [3, 1], [4, 1], [5, 1])
        for q in (made(1), made(0, 1), made(-1, 0, 1), made(0, 0, 0, 1), made(3, -1, 2, 5, 1)):
            self.assertGreater(len(self.look(five, q)[1]), 0)

    def test_many_figures(self):
        chance = Chance(263)
        self.look(product(*[[abs(chance.fraction(12)) + 1, 1] for _ in range(5)]), chance.polynomial(4, 12))
        self.look(chance.polynomial(2, 300), chance.polynomial(1, 300))
        self.look(made(10 ** 299, 10 ** 299 + 1, 1), made(10 ** 298))

    def test_what_was_told_may_be_asked_of_again(self):
        chance = Chance(264)
        D = gains_of(product([1, 1], [2, 1], [3, 1]), chance.polynomial(2, 30))[0]
        self.look(D, made(1, 1))


class NoGains(RestCase):
    def refused_by_both(self, p, q):
        self.refused("NoGain", gained, p, q, num(2))
        self.refused("NoGain", gained, p, q, num(0))
        self.refused("NoGain", gains_of, p, q)

    def test_p_of_degree_0_and_nought(self):
        for q in ([], made(1), made(1, 2)):
            self.refused_by_both([], q)
            self.refused_by_both(made(3), q)

    def test_p_beyond_5(self):
        for degree in (6, 7):
            self.refused_by_both(made(*[1] * (degree + 1)), made(1))
            self.refused_by_both(made(*[1] * (degree + 1)), made(*[1] * degree))

    def test_q_nought(self):
        for degree in range(1, 6):
            self.refused_by_both(made(*[1] * (degree + 1)), [])

    def test_q_not_lower(self):
        for degree in range(1, 6):
            for other in range(degree, 8):
                self.refused_by_both(made(*[1] * (degree + 1)), made(*[2] * (other + 1)))
