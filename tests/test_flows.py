from fractions import Fraction

from helper import (
    Chance, TableCase, chance_table, determinant_of, diagonal, frac, fracs, known_polynomials, led, like, made, noughts,
    num, product, product_of, table, with_back, worth_frac,
)
from restward.flows import flow_form, flow_said, poly_table, table_poly, worth_by
from restward.polys import scaled
from restward.squares import signs
from restward.tables import turned, unit, worth_at
from restward.three import three


def along_flow(one, form):
    """The table turned times the form, and the form times the table, added."""
    first, second = product_of([list(column) for column in zip(*one)], form), product_of(form, one)
    return [[num(frac(a) + frac(b)) for a, b in zip(*rows)] for rows in zip(first, second)]


def samples():
    chance = Chance(151)
    found = [chance_table(chance, n, figures, bottoms)
             for n in range(1, 5) for figures, bottoms in ((1, False), (1, True), (12, True), (12, False))]
    for n in range(1, 5):
        found += [unit(n), noughts(n), diagonal([-1] * n)]
        found += [[made(*[chance.pick([0, 0, 1, -1, 2]) for _ in range(n)]) for _ in range(n)] for _ in range(20)]
    return found


class Polynomials(TableCase):
    def look(self, one):
        n = len(one)
        told = self.asked(table_poly, one)
        self.assertPolynomial(told)
        self.assertEqual(len(told), n + 1)
        self.assertEqual(told[-1], num(1))
        for x in range(n + 1):
            less = [[num(x * (i == j) - frac(one[i][j])) for j in range(n)] for i in range(n)]
            self.assertTrue(num(worth_frac(told, x)) == determinant_of(less))
        return told

    def test_by_determinants(self):
        for one in samples():
            self.look(one)
        self.look(chance_table(Chance(152), 4, 300))

    def test_known(self):
        self.assertEqual(self.look(table((1, 2), (3, 4))), made(-2, -5, 1))
        self.assertEqual(self.look(table((Fraction(-2, 3),))), made(Fraction(2, 3), 1))
        self.assertEqual(self.look(diagonal([1, 2, 3, 4])), product([-1, 1], [-2, 1], [-3, 1], [-4, 1]))
        self.assertEqual(self.look(noughts(4)), made(0, 0, 0, 0, 1))

    def test_there_and_back(self):
        chance = Chance(153)
        for degree in range(1, 5):
            for figures in (1, 12, 300):
                p = chance.polynomial(degree, figures)
                told = self.asked(poly_table, p)
                self.assertTable(told, degree)
                self.assertEqual(told[:-1], [made(*[int(j == i + 1) for j in range(degree)])
                                             for i in range(degree - 1)])
                self.assertEqual(told[-1], made(*[-value / fracs(p)[-1] for value in fracs(p)[:-1]]))
                self.assertEqual(self.look(told), scaled(num(1 / frac(p[-1])), p))

    def test_known_tables(self):
        self.assertEqual(poly_table(made(6, 5, 2)), table((0, 1), (-3, Fraction(-5, 2))))
        self.assertEqual(poly_table(made(-6, 2)), table((3,)))
        self.assertEqual(poly_table(made(0, 0, 0, -1)), table((0, 1, 0), (0, 0, 1), (0, 0, 0)))

    def test_other_degrees_are_refused(self):
        self.refused("NoPolynomial", poly_table, [])
        self.refused("NoPolynomial", poly_table, made(3))
        for degree in (5, 6, 7):
            self.refused("NoPolynomial", poly_table, made(*[1] * (degree + 1)))
            self.refused("NoPolynomial", poly_table, made(*[0] * degree, -2))


class Worths(TableCase):
    def look(self, p, one):
        n = len(one)
        total, power = noughts(n), unit(n)
        for number in p:
            total = [[num(frac(a) + frac(number) * frac(b)) for a, b in zip(*rows)] for rows in zip(total, power)]
            power = product_of(power, one)
        told = self.asked(worth_by, p, one)
        self.assertTable(told, n)
        self.assertTrue(told == total)

    def test_worths(self):
        chance = Chance(154)
        for one in samples():
            for degree in (0, 1, chance.whole(2, 6), 7):
                self.look(chance.polynomial(degree, chance.pick([1, 12])), one)
        self.look(chance.polynomial(2, 300), chance_table(chance, 2, 300))

    def test_of_nought_and_of_a_number_alone(self):
        for n in range(1, 5):
            one = chance_table(Chance(155), n, 1)
            self.assertEqual(self.asked(worth_by, [], one), noughts(n))
            self.assertEqual(self.asked(worth_by, made(Fraction(-2, 3)), one), diagonal([Fraction(-2, 3)] * n))
            self.look([], one)
            self.look(made(5), noughts(n))

    def test_a_table_makes_nought_of_its_polynomial(self):
        for one in samples():
            self.assertEqual(worth_by(table_poly(one), one), noughts(len(one)))


class Flows(TableCase):
    def look(self, one):
        """The word of what is said, once form and saying were looked at."""
        n = len(one)
        numbers = three(table_poly(one))
        told = self.asked(flow_form, one)
        self.assertIs(type(told), tuple)
        word, form = told
        self.assertTable(form, n)
        self.assertEqual(turned(form), form)
        said = self.asked(flow_said, one)
        self.assertIs(type(said), tuple)
        if word == "kept":
            self.assertTrue(along_flow(one, form) == noughts(n))
            self.assertNotEqual(form, noughts(n))
            self.assertLess(numbers[0], n)
            self.assertEqual(said[0], "kept")
            self.assertEqual(len(said), 2)
            self.assertTable(said[1], n)
            self.assertEqual(turned(said[1]), said[1])
            self.assertTrue(along_flow(one, said[1]) == noughts(n))
            self.assertNotEqual(said[1], noughts(n))
            return "kept"
        self.assertEqual(word, "form")
        self.assertTrue(along_flow(one, form) == diagonal([-1] * n))
        self.assertEqual(signs(form), (numbers[0], numbers[2], 0))
        self.assertTrue(said[1] == form)
        if numbers[0] == n:
            self.assertEqual(said, ("dies", form))
            return "dies"
        self.assertEqual(said[0], "grows")
        self.assertEqual(len(said), 3)
        self.assertColumn(said[2], n)
        self.assertLess(worth_at(form, said[2])[0], 0)
        return "grows"

    def test_samples(self):
        words = [self.look(one) for one in samples()]
        self.assertEqual(set(words), {"dies", "grows", "kept"})

    def test_known_factors_led_otherwise(self):
        chance = Chance(156)
        for p, numbers in known_polynomials(chance, 80, 4):
            n = len(p) - 1
            if n > 0:
                word = self.look(poly_table(p))
                self.assertEqual(word == "dies", numbers[0] == n)
                if numbers[1]:
                    self.assertEqual(word, "kept")
                self.assertEqual(self.look(like(poly_table(p), with_back(chance, n, 1))), word)

    def test_known(self):
        self.assertEqual(flow_form(table((-2,))), ("form", table((Fraction(1, 4),))))
        self.assertEqual(flow_said(table((-2,))), ("dies", table((Fraction(1, 4),))))
        self.assertEqual(flow_form(table((3,))), ("form", table((Fraction(-1, 6),))))
        self.assertEqual(flow_form(diagonal([-1, -2])), ("form", diagonal([Fraction(1, 2), Fraction(1, 4)])))
        self.assertEqual(flow_form(table((0, 1), (-2, -3))),
                         ("form", table((Fraction(5, 4), Fraction(1, 4)), (Fraction(1, 4), Fraction(1, 4)))))

    def test_one_row(self):
        self.assertEqual(self.look(table((Fraction(-1, 10 ** 12),))), "dies")
        self.assertEqual(self.look(table((Fraction(1, 10 ** 12),))), "grows")
        self.assertEqual(self.look(table((0,))), "kept")

    def test_kept(self):
        for n in range(1, 5):
            self.assertEqual(self.look(noughts(n)), "kept")
        # On the axis, opposite to one another, at 0; also where one of them grows besides.
        self.assertEqual(self.look(table((0, 1), (-1, 0))), "kept")
        self.assertEqual(self.look(diagonal([1, -1])), "kept")
        self.assertEqual(self.look(diagonal([0, -1])), "kept")
        self.assertEqual(self.look(diagonal([-1, -2, -3, 0])), "kept")
        self.assertEqual(self.look(diagonal([5, -1, -2, 2])), "kept")
        self.assertEqual(self.look(poly_table(product([2, 2, 1], [2, -2, 1]))), "kept")
        self.assertEqual(self.look(poly_table(product([1, 0, 1], [1, 0, 1]))), "kept")
        self.assertEqual(self.look(table((0, 1), (0, 0))), "kept")

    def test_roots_that_stand_often(self):
        self.assertEqual(self.look(poly_table(product(*[[1, 1]] * 4))), "dies")
        self.assertEqual(self.look(diagonal([-1] * 4)), "dies")
        self.assertEqual(self.look(poly_table(product(*[[-1, 1]] * 4))), "grows")
        self.assertEqual(self.look(diagonal([1] * 4)), "grows")
        self.assertEqual(self.look(poly_table(product([1, 1], [1, 1], [-2, 1], [-2, 1]))), "grows")

    def test_a_form_below_0_at_one_place_alone(self):
        by = table((1, 2, 0, 1), (0, 1, 3, 0), (1, 0, 1, 2), (0, 1, 0, 1))
        self.assertEqual(self.look(like(diagonal([-1, -2, 3, -4]), by)), "grows")
        self.assertEqual(self.look(like(diagonal([-1, -2, -3, -4]), by)), "dies")

    def test_twelve_and_more_figures(self):
        chance = Chance(157)
        for n in range(1, 5):
            one = chance_table(chance, n, 12)
            self.look(one)
            for at in range(n):
                one[at][at] = num(-(10 ** 13))
            self.assertEqual(self.look(one), "dies")
        self.look(chance_table(chance, 2, 300))
        self.look(chance_table(chance, 4, 100, False))

    def test_the_worth_falls_by_the_square_of_the_way(self):
        """At x the form changes by twice x times the form times what the table makes of x."""
        one = table((0, 1), (-2, -3))
        form = flow_form(one)[1]
        for x in ((1, 0), (0, 1), (3, -5)):
            change = [sum(frac(a) * b for a, b in zip(row, x)) for row in one]
            fall = 2 * sum(frac(form[i][j]) * x[i] * change[j] for i in range(2) for j in range(2))
            self.assertEqual(fall, -sum(value * value for value in x))

    def test_led_forms(self):
        """Where a table is led otherwise, a kept form is led likewise."""
        one = diagonal([1, -1])
        by = table((2, 1), (1, 1))
        self.assertTrue(along_flow(like(one, by), led(flow_form(one)[1], by)) == noughts(2))
