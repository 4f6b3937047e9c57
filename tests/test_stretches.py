from fractions import Fraction

from helper import Chance, RestCase, frac, fracs, made, num, product, strip, sum_fracs, worth_frac
from restward.stretches import narrowed, root_count, sign_row, stretches_of

HAIRS = (num(1), num(1, 9999999), num(9999999), num(3, 7), num(1, 1000))


def divided_fracs(p, q):
    """The rest of p divided by q, by Python's own fractions."""
    rest = list(p)
    while len(rest) >= len(q):
        factor = rest[-1] / q[-1]
        step = [Fraction(0)] * (len(rest) - len(q)) + [-factor * value for value in q]
        rest = strip(sum_fracs(rest, step))
    return rest


class Known:
    """A polynomial whose real roots are known: wholes and fractions, and both roots of some numbers above 0."""

    def __init__(self, roots, squares, others, lead):
        factors = [[-root, 1] for root in roots] + [[-square, 0, 1] for square in squares] + others + [[lead]]
        self.p = product(*factors)
        self.roots = sorted(set(roots))
        self.squares = sorted(set(squares))

    def many(self):
        return len(self.roots) + 2 * len(self.squares)

    def between(self, low, high):
        """How many lie above low and not above high."""
        found = len([root for root in self.roots if (low is None or low < root) and (high is None or root <= high)])
        for square in self.squares:
            for sign in (1, -1):
                above = low is None or is_less(low, sign, square)
                found += above and (high is None or not is_less(high, sign, square))
        return found


def is_less(value, sign, square):
    """Whether a fraction is below the root, with that sign, of a number above 0 that is no square of a fraction."""
    if sign > 0:
        return value < 0 or value * value < square
    return value < 0 and value * value > square


def knowns():
    third = Fraction(1, 3)
    twelve = Fraction(123456789012, 987654321097)
    found = [
        Known([], [], [], 5), Known([], [], [[1, 0, 1]], -1), Known([], [], [[1, 0, 1], [1, 0, 1]], 1),
        Known([], [], [[3, 0, 0, 0, 1]], 2), Known([0], [], [], 1), Known([0, 0, 0], [], [], -7),
        Known([1], [], [], 1), Known([third], [], [], -3), Known([-2, 3], [], [], 1), Known([1, 1, 1, 2], [], [], 1),
        Known([0, 0, 1, -1], [2], [], 1), Known([], [2, 3], [], -1), Known([], [2, 2], [[1, 0, 1]], 1),
        Known([1, 2, 3, 4, 5, 6, 7, 8], [], [], 1), Known([-1, -2, -3, -4, 0, 1, 2, 3], [], [], -1),
        Known([third, third, -third], [Fraction(1, 5)], [[10, 6, 1]], 1), Known([5] * 8, [], [], 1),
        Known([twelve, twelve + Fraction(1, 10 ** 12)], [], [], 1), Known([twelve, -twelve], [twelve], [], twelve),
        Known([10 ** 12, 10 ** 12 + 1, -10 ** 12], [], [[1, 1, 1]], 1), Known([0, 10 ** 12], [10 ** 23], [], 1),
        Known([2, 2, 2], [], [[5, -4, 1], [5, -4, 1]], 1), Known([0, 0, 0, 0], [], [[7, 0, 0, 0, 1]], 1),
        Known([Fraction(10 ** 299 + 1, 3), Fraction(1, 10 ** 299)], [], [], 1),
        Known([Fraction(1, 2), Fraction(1, 4), Fraction(3, 4), Fraction(1, 8), Fraction(-1, 2), 0], [], [], 16),
    ]
    chance = Chance(51)
    for _ in range(30):
        roots = [chance.pick([0, 1, -1, 2, third, -third, twelve, chance.fraction(12), chance.fraction(1)])
                 for _ in range(chance.whole(0, 4))]
        squares = [chance.pick([2, 3, Fraction(5, 7), 10 ** 11]) for _ in range(chance.whole(0, 1))]
        others = [chance.pick([[1, 0, 1], [5, -4, 1], [twelve, 0, 1]]) for _ in range(chance.whole(0, 1))]
        found.append(Known(roots, squares, others, chance.fraction(12) or 1))
    return found


class SignRows(RestCase):
    def look(self, p):
        told = self.asked(sign_row, p)
        expected = [fracs(p)]
        further = [i * value for i, value in enumerate(fracs(p))][1:]
        while further:
            expected.append(further)
            further = [-value for value in divided_fracs(expected[-2], expected[-1])]
        self.assertIs(type(told), list)
        for each in told:
            self.assertPolynomial(each)
        self.assertTrue([fracs(each) for each in told] == expected)

    def test_known(self):
        self.assertEqual(sign_row(made(-1, 0, 1)), [made(-1, 0, 1), made(0, 2), made(1)])
        self.assertEqual(sign_row(made(1, 2, 1)), [made(1, 2, 1), made(2, 2)])

    def test_a_number_alone(self):
        self.assertEqual(self.asked(sign_row, made(-3)), [made(-3)])

    def test_all_degrees(self):
        chance = Chance(52)
        for degree in range(11):
            for figures, bottoms in ((1, False), (1, True), (12, False), (12, True)):
                self.look(chance.polynomial(degree, figures, bottoms))
        self.look(chance.polynomial(4, 300))

    def test_roots_that_stand_often(self):
        for known in knowns():
            self.look(known.p)

    def test_gaps(self):
        self.look(made(1, 0, 0, 0, 0, 0, 0, 0, 0, 0, 1))
        self.look(made(0, 0, 0, 0, 1, 0, 0, 0, 0, 1))

    def test_nought_is_refused(self):
        self.refused("NoPolynomial", sign_row, [])


class RootCounts(RestCase):
    def look(self, known, low, high):
        told = self.asked(root_count, known.p, None if low is None else num(low), None if high is None else num(high))
        self.assertIs(type(told), int)
        self.assertEqual(told, known.between(low, high), (known.roots, known.squares, low, high))

    def test_known_roots(self):
        for known in knowns():
            self.look(known, None, None)
            points = sorted(set(known.roots + [Fraction(-1), Fraction(0), Fraction(7, 5), Fraction(10 ** 12)]))
            for at, low in enumerate(points):
                self.look(known, low, None)
                self.look(known, None, low)
                for high in points[at + 1:]:
                    self.look(known, low, high)

    def test_roots_at_both_ends(self):
        p = product([-1, 1], [-2, 1], [-2, 1], [-3, 1])
        self.assertEqual(root_count(p, num(1), num(3)), 2)
        self.assertEqual(root_count(p, num(1), num(2)), 1)
        self.assertEqual(root_count(p, num(0), num(1)), 1)
        self.assertEqual(root_count(p, None, num(1)), 1)
        self.assertEqual(root_count(p, num(3), None), 0)

    def test_degree_10(self):
        p = product(*[[-root, 1] for root in range(10)])
        self.assertEqual(root_count(p, None, None), 10)
        self.assertEqual(root_count(p, num(0), num(9)), 9)
        self.assertEqual(root_count(product(*[[-2, 1]] * 10), num(0), num(2)), 1)

    def test_a_number_alone(self):
        self.assertEqual(root_count(made(-3), None, None), 0)
        self.assertEqual(root_count(made(3), num(0), num(1)), 0)

    def test_nought_is_refused(self):
        self.refused("NoPolynomial", root_count, [], None, None)
        self.refused("NoPolynomial", root_count, [], num(0), num(1))

    def test_nought_is_refused_first(self):
        self.refused("NoPolynomial", root_count, [], num(1), num(0))

    def test_low_not_below_high_is_refused(self):
        for low, high in ((num(1), num(1)), (num(2), num(1)), (num(1, 2), num(1, 3)), (num(0), num(-1))):
            self.refused("NoStretch", root_count, made(0, 1), low, high)
            self.refused("NoStretch", root_count, made(5), low, high)


class Stretches(RestCase):
    def look(self, known):
        told = self.asked(stretches_of, known.p)
        self.assertIs(type(told), list)
        self.assertEqual(len(told), known.many())
        end = None
        for each in told:
            self.look_at(known, each)
            self.assertTrue(end is None or end <= frac(each[0]))
            end = frac(each[1])
        return told

    def look_at(self, known, stretch):
        self.assertIs(type(stretch), tuple)
        self.assertEqual(len(stretch), 2)
        for number in stretch:
            self.assertNumber(number)
            self.assertNotEqual(worth_frac(known.p, frac(number)), 0)
        low, high = frac(stretch[0]), frac(stretch[1])
        self.assertLess(low, high)
        self.assertEqual(known.between(low, high), 1)

    def test_known_roots(self):
        for known in knowns():
            self.look(known)

    def test_without_a_real_root(self):
        self.assertEqual(stretches_of(made(1, 0, 1)), [])
        self.assertEqual(stretches_of(made(7)), [])
        self.assertEqual(stretches_of(made(1, 0, 0, 0, 0, 0, 0, 0, 1)), [])

    def test_roots_very_near_to_one_another(self):
        near = Fraction(1, 10 ** 60)
        self.look(Known([near, -near, 1], [], [], 1))
        self.look(Known([1 + near, 1 - near, 1], [], [], 1))

    def test_nought_is_refused(self):
        self.refused("NoPolynomial", stretches_of, [])

    def test_narrowed(self):
        for known in knowns():
            for stretch in self.look(known):
                for hair in HAIRS:
                    told = self.asked(narrowed, known.p, stretch, hair)
                    self.look_at(known, told)
                    self.assertLessEqual(frac(stretch[0]), frac(told[0]))
                    self.assertGreaterEqual(frac(stretch[1]), frac(told[1]))
                    self.assertLessEqual(frac(told[1]) - frac(told[0]), frac(hair))

    def test_a_root_in_the_middle(self):
        known = Known([1, 1], [], [], 1)
        told = self.asked(narrowed, known.p, (num(0), num(2)), num(1, 2))
        self.look_at(known, told)
        self.assertLessEqual(frac(told[1]) - frac(told[0]), Fraction(1, 2))
        told = self.asked(narrowed, known.p, (num(0), num(2)), num(19, 10))
        self.look_at(known, told)
        self.assertLessEqual(frac(told[1]) - frac(told[0]), Fraction(19, 10))
        self.assertGreaterEqual(frac(told[0]), 0)
        self.assertLessEqual(frac(told[1]), 2)

    def test_narrow_enough_already(self):
        known = Known([1], [2], [], 1)
        stretch = (num(9, 10), num(11, 10))
        told = self.asked(narrowed, known.p, stretch, num(1, 5))
        self.look_at(known, told)
        self.assertTrue(frac(stretch[0]) <= frac(told[0]) and frac(told[1]) <= frac(stretch[1]))

    def test_far_ends(self):
        known = Known([1, 1, 1], [], [[1, 0, 1]], -2)
        told = self.asked(narrowed, known.p, (num(-10 ** 299, 3), num(10 ** 299, 7)), num(1, 9999999))
        self.look_at(known, told)
        self.assertLessEqual(frac(told[1]) - frac(told[0]), Fraction(1, 9999999))


class NoStretches(RestCase):
    P = product([-1, 1], [-2, 1], [-2, 1], [-4, 1], [1, 0, 1])

    def test_what_is_a_stretch(self):
        for low, high in ((0, Fraction(3, 2)), (Fraction(3, 2), 3), (3, 5), (-9, Fraction(19, 10))):
            narrowed(self.P, (num(low), num(high)), num(1))

    def test_what_is_none(self):
        low, high = num(0), num(3, 2)
        for thing in (
                (high, low), (low, low), (num(1), num(3, 2)), (num(0), num(1)), (num(5), num(6)), (low, num(3)),
                (low, num(5)), (num(1), num(2)), (num(-3), num(-2)), [low, high], (low, high, high), (low,), (), [],
                None, True, 5, "(0, 1)", (0, 2), (False, True), (low, None), (None, high), (None, None), (low, "x"),
                ((0, 2), high), (low, (6, 4)), ((0, -1), high), (low, (-3, -2)), ([0, 1], [3, 2]), (low, [3, 2]),
                ((False, 1), high), ((0, True), high), (low, (3, 2, 1)), ((0, 1), (3, 0)), ((low, high),),
                (low, (num(3), num(2))), ("a", "b"), (low, True), (True, high), [[0, 1], [3, 2]], (num(2), num(4))):
            self.refused("NoStretch", narrowed, self.P, thing, num(1))

    def test_of_a_number_alone_there_is_none(self):
        self.refused("NoStretch", narrowed, made(3), (num(0), num(1)), num(1))
        self.refused("NoStretch", narrowed, made(1, 0, 1), (num(-1), num(1)), num(1))

    def test_nought_is_refused_first(self):
        for thing in ((num(0), num(1)), (num(1), num(0)), None, [], "x"):
            self.refused("NoPolynomial", narrowed, [], thing, num(1))

    def test_of_many_things(self):
        self.refused("NoStretch", narrowed, self.P, (num(0),) * 600, num(1))
        self.refused("NoStretch", narrowed, self.P, ((((((((1,),),),),),),),), num(1))
