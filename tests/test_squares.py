from fractions import Fraction

from helper import Chance, TableCase, diagonal, frac, known_polynomials, led, made, num, product, table, with_back
from restward.commons import divided
from restward.divisions import divisions
from restward.squares import hermite, signs, squares
from restward.tables import determinant, turned, unit
from restward.three import three


def chance_form(chance, n, values):
    """A form of some of these values, and its diagonal of noughts."""
    rows = [[Fraction(0)] * n for _ in range(n)]
    for i in range(n):
        for j in range(i):
            rows[i][j] = rows[j][i] = chance.pick(values)
    return table(*rows)


def signs_of(values):
    return (len([v for v in values if v > 0]), len([v for v in values if v < 0]), len([v for v in values if v == 0]))


class Squares(TableCase):
    def look(self, form, expected=None):
        n = len(form)
        told = self.asked(squares, form)
        self.assertIs(type(told), tuple)
        self.assertEqual(len(told), 2)
        lead, numbers = told
        self.assertTable(lead, n)
        self.assertColumn(numbers, n)
        self.assertNotEqual(determinant(lead), num(0))
        self.assertTrue(led(form, lead) == diagonal([frac(number) for number in numbers]))
        counted = self.asked(signs, form)
        self.assertIs(type(counted), tuple)
        self.assertEqual([type(each) for each in counted], [int] * 3)
        self.assertEqual(counted, signs_of([frac(number) for number in numbers]))
        if expected is not None:
            self.assertEqual(counted, expected)

    def test_known_squares_led(self):
        chance = Chance(101)
        for n in range(1, 8):
            for figures in (1, 1, 1, 1, 12):
                values = [chance.pick([1, -1, 0, Fraction(2, 3), -5, chance.fraction(12)]) for _ in range(n)]
                self.look(led(diagonal(values), with_back(chance, n, figures)), signs_of(values))
                self.look(led(diagonal(values), with_back(chance, n, figures, False)), signs_of(values))
                self.look(diagonal(values), signs_of(values))

    def test_all_plus_and_all_minus(self):
        chance = Chance(102)
        for n in range(1, 8):
            by = with_back(chance, n, 1)
            self.look(led(unit(n), by), (n, 0, 0))
            self.look(led(diagonal([-1] * n), by), (0, n, 0))

    def test_noughts_alone(self):
        for n in range(1, 8):
            self.look(diagonal([0] * n), (0, 0, n))

    def test_one_row(self):
        for value in (3, -3, 0, Fraction(-2, 7), Fraction(1, 10 ** 12)):
            self.look(table((value,)), signs_of([value]))

    def test_noughts_along_the_diagonal(self):
        self.look(table((0, 1), (1, 0)), (1, 1, 0))
        self.look(table((0, Fraction(-3, 7)), (Fraction(-3, 7), 0)), (1, 1, 0))
        self.look(table((0, 0, 1), (0, 0, 0), (1, 0, 0)), (1, 1, 1))
        for n in range(2, 8):
            self.look([[num(int(i != j)) for j in range(n)] for i in range(n)], (1, n - 1, 0))
            self.look([[num(-int(i != j), 3) for j in range(n)] for i in range(n)], (n - 1, 1, 0))
            self.look([[num(int(i + j == n - 1 and i != j)) for j in range(n)] for i in range(n)],
                      (n // 2, n // 2, n % 2))

    def test_noughts_along_the_diagonal_by_chance(self):
        chance = Chance(103)
        thirds = [Fraction(0), Fraction(0), Fraction(1), Fraction(-2, 3), Fraction(1, 5)]
        for n in range(2, 8):
            for _ in range(8):
                self.look(chance_form(chance, n, thirds))
                self.look(chance_form(chance, n, [chance.fraction(12) for _ in range(5)] + [Fraction(0)]))

    def test_squares_that_become_0_later(self):
        # Behind the first place the others have squares of 0, yet products that aren't.
        self.look(table((1, 1, 1), (1, 1, 2), (1, 2, 1)), (2, 1, 0))
        self.look(table((2, 2, 2), (2, 2, 3), (2, 3, 2)), (2, 1, 0))
        rows = [[num(5 if i == 0 or j == 0 or i == j else 5 + (i + j == 5)) for j in range(5)] for i in range(5)]
        self.look(rows, (3, 2, 0))
        scale = [1, Fraction(1, 7), Fraction(2, 11), Fraction(3, 13), Fraction(4, 17)]
        self.look(led(rows, diagonal(scale)), (3, 2, 0))

    def test_0_at_the_first_place(self):
        self.look(table((0, 1), (1, 1)), (1, 1, 0))
        self.look(table((0, 0), (0, -2)), (0, 1, 1))
        self.look(table((0, 2, 0), (2, 0, 0), (0, 0, Fraction(1, 3))), (2, 1, 0))

    def test_a_determinant_of_0(self):
        self.look(table((1, 2), (2, 4)), (1, 0, 1))
        self.look(table((1, 2, 3), (2, 4, 6), (3, 6, 9)), (1, 0, 2))
        chance = Chance(104)
        for n in range(2, 8):
            for rank in range(1, n):
                values = [chance.pick([2, -3]) for _ in range(rank)] + [0] * (n - rank)
                self.look(led(diagonal(chance.mixed(values)), with_back(chance, n, 1)), signs_of(values))

    def test_the_same_by_all_leads(self):
        chance = Chance(105)
        for n in range(1, 8):
            form = chance_form(chance, n, [Fraction(1), Fraction(-1), Fraction(2, 3)])
            self.assertEqual(signs(led(form, with_back(chance, n, 1))), signs(form))

    def test_three_hundred_figures(self):
        chance = Chance(106)
        for n, bottoms in ((3, True), (7, False)):
            values = [chance.fraction(300, bottoms) for _ in range(n)]
            self.look(led(diagonal(values), with_back(chance, n, 1)), signs_of(values))

    def test_what_was_told_handed_in_again(self):
        chance = Chance(107)
        form = hermite(chance.polynomial(5, 12))
        lead, numbers = squares(form)
        self.look(led(form, lead), signs(form))

    def test_other_tables_are_refused(self):
        chance = Chance(108)
        for n in range(2, 8):
            for _ in range(3):
                one = led(unit(n), with_back(chance, n, 1))
                i, j = chance.pick([(i, j) for i in range(n) for j in range(n) if i != j])
                one[i][j] = num(frac(one[i][j]) + Fraction(1, 10 ** 12))
                self.refused("NoForm", squares, one)
                self.refused("NoForm", signs, one)
        for one in (table((0, 1), (-1, 0)), table((0, 1), (0, 0)), table((1, 2), (3, 1)),
                    table((1, 0, 0), (0, 1, 5), (0, 0, 1))):
            self.refused("NoForm", squares, one)
            self.refused("NoForm", signs, one)


class Hermite(TableCase):
    def look(self, p):
        """By what makes it: at each place of x and y both sides of the sentence have the same number."""
        n = len(p) - 1
        told = self.asked(hermite, p)
        self.assertTable(told, n)
        self.assertEqual(turned(told), told)
        for i in range(n + 1):
            for j in range(n + 1):
                left = frac(p[i]) * frac(p[j]) * (1 - (-1) ** (i + j))
                right = frac(told[i - 1][j]) if i > 0 and j < n else 0
                right += frac(told[i][j - 1]) if j > 0 and i < n else 0
                self.assertTrue(left == right)
        return told

    def test_known(self):
        self.assertEqual(self.look(made(3, 5)), table((30,)))
        self.assertEqual(self.look(made(2, 3, 1)), table((12, 0), (0, 6)))
        self.assertEqual(self.look(made(6, 11, 6, 1)), table((132, 0, 12), (0, 120, 0), (12, 0, 12)))
        self.assertEqual(self.look(made(Fraction(1, 2), Fraction(-1, 3))), table((Fraction(-1, 3),)))

    def test_all_degrees(self):
        chance = Chance(109)
        for degree in range(1, 8):
            for figures, bottoms in ((1, False), (1, True), (12, False), (12, True)):
                self.look(chance.polynomial(degree, figures, bottoms))
        self.look(chance.polynomial(7, 300))

    def test_even_or_odd_powers_alone(self):
        for p in (made(1, 0, 3), made(0, 1), made(0, 0, 0, -2), made(0, 2, 0, 5), made(1, 0, 0, 0, 0, 0, 4)):
            n = len(p) - 1
            self.assertEqual(self.look(p), [made(*[0] * n) for _ in range(n)])
            self.assertEqual(signs(hermite(p)), (0, 0, n))

    def agree(self, p, numbers):
        """That three numbers come by squares with signs and the last polynomial, too."""
        last = divisions(p)[1]
        plus, minus, none = signs(self.look(p))
        self.assertEqual(none, len(last) - 1)
        left, on, right = three(last)
        self.assertEqual((plus + left, on, minus + right), numbers)
        self.assertEqual((plus, 0, minus), three(divided(p, last)[0]))

    def test_signs_of_known_factors(self):
        for p, numbers in known_polynomials(Chance(110), 120, 7):
            if len(p) > 1:
                self.agree(p, numbers)

    def test_signs_with_roots_on_the_axis_and_opposite(self):
        self.agree(product([1, 0, 1], [1, 1]), (1, 2, 0))
        self.agree(product([-1, 0, 1], [2, 1]), (2, 0, 1))
        self.agree(product([0, 1], [0, 1], [2, 1], [-3, 1]), (1, 2, 1))
        self.agree(product([1, 0, 1], [1, 0, 1], [1, 1], [-2, 1], [-3, 1]), (1, 4, 2))
        self.agree(product([1, 1], [-1, 1], [2, 1], [-2, 1], [5, 1]), (3, 0, 2))
        self.agree(product([2, 2, 1], [2, -2, 1], [3, 1]), (3, 0, 2))

    def test_degree_1(self):
        self.agree(made(1, 1), (1, 0, 0))
        self.agree(made(-1, 1), (0, 0, 1))
        self.agree(made(0, -7), (0, 1, 0))
        self.agree(made(-2, -7), (1, 0, 0))

    def test_nought_and_numbers_alone_are_refused(self):
        self.refused("NoPolynomial", hermite, [])
        for value in (1, -2, Fraction(1, 3)):
            self.refused("NoPolynomial", hermite, made(value))
