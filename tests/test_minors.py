from fractions import Fraction
from itertools import combinations

from helper import (
    Chance, TableCase, chance_table, determinant_of, frac, known_polynomials, made, num, product, table,
)
from restward.minors import leads, minor, steep
from restward.parts import parts_of
from restward.tables import determinant, unit


def part_of(one, rows, columns):
    return [[one[row][column] for column in columns] for row in rows]


def places(n, many):
    return list(combinations(range(n), many))


class Steep(TableCase):
    def look(self, p):
        n = len(p) - 1
        told = self.asked(steep, p)
        self.assertTable(told, n)
        by_power = dict(enumerate(p))
        for i in range(n):
            for j in range(n):
                self.assertEqual(told[i][j], by_power.get(n - 1 - 2 * j + i, num(0)))
        return told

    def test_known(self):
        self.assertEqual(self.look(made(6, 11, 7, 1)), table((7, 6, 0), (1, 11, 0), (0, 7, 6)))
        self.assertEqual(self.look(made(5, 4, 3, 2, 1)), table((2, 4, 0, 0), (1, 3, 5, 0), (0, 2, 4, 0), (0, 1, 3, 5)))
        self.assertEqual(self.look(made(3, 5)), table((3,)))
        self.assertEqual(self.look(made(0, -5)), table((0,)))
        self.assertEqual(self.look(made(7, 3, 5)), table((3, 0), (5, 7)))

    def test_all_degrees(self):
        chance = Chance(131)
        for degree in range(1, 8):
            for figures, bottoms in ((1, False), (12, True), (300, True)):
                self.look(chance.polynomial(degree, figures, bottoms))

    def test_even_or_odd_powers_alone(self):
        self.assertEqual(self.look(made(1, 0, 3)), table((0, 0), (3, 1)))
        self.assertEqual(self.look(made(0, 0, 0, -2)), table((0, 0, 0), (-2, 0, 0), (0, 0, 0)))
        self.look(made(0, 2, 0, 5, 0, 1, 0, 1))

    def test_nought_and_numbers_alone_are_refused(self):
        self.refused("NoPolynomial", steep, [])
        for value in (1, -2, Fraction(1, 3)):
            self.refused("NoPolynomial", steep, made(value))


class Minors(TableCase):
    def look(self, one, rows, columns):
        told = self.asked(minor, one, rows, columns)
        self.assertNumber(told)
        self.assertEqual(told, determinant_of(part_of(one, rows, columns)))

    def test_all_of_some_tables(self):
        chance = Chance(132)
        for n in range(1, 5):
            for figures in (1, 12):
                one = chance_table(chance, n, figures)
                for many in range(1, n + 1):
                    for rows in places(n, many):
                        for columns in places(n, many):
                            self.look(one, rows, columns)

    def test_known(self):
        one = table((1, 2, 3), (4, 5, 6), (7, 8, 10))
        self.assertEqual(minor(one, (0, 2), (0, 2)), num(-11))
        self.assertEqual(minor(one, (0, 1), (1, 2)), num(-3))
        self.assertEqual(minor(one, (1,), (2,)), num(6))
        self.assertEqual(minor(one, (2,), (1,)), num(8))
        self.assertEqual(minor(one, (0, 1, 2), (0, 1, 2)), num(-3))

    def test_n_7(self):
        chance = Chance(133)
        one = chance_table(chance, 7, 12)
        self.look(one, (0, 2, 4, 6), (1, 3, 4, 5))
        self.look(one, (6,), (0,))
        self.look(one, (0, 6), (0, 6))
        self.assertEqual(self.asked(minor, one, tuple(range(7)), tuple(range(7))), determinant(one))

    def test_0(self):
        self.look(table((0, 0), (0, 0)), (0, 1), (0, 1))
        self.look(unit(3), (0,), (1,))
        self.look(unit(3), (0, 1), (1, 2))

    def test_what_are_no_places(self):
        one = table((1, 2, 3), (4, 5, 6), (7, 8, 10))
        wrong = ((), [], [0], [0, 1], (0, 0), (1, 0), (0, 2, 1), (0, 1, 1), (3,), (0, 3), (-1,), (-1, 0), (0, 1, 2, 3),
                 (True,), (False,), (False, True), (0, True), (0, None), (None,), None, 0, 1, True, False, "", "0",
                 "01", ("0",), ((0,),), (0, (1,)), ([0],), ((),), [(0,)], ("0", "1"), 7, (0, 1, "2"))
        for thing in wrong:
            for good in ((0,), (1,), (0, 1), (0, 2), (0, 1, 2)):
                self.refused("NoPair", minor, one, thing, good)
                self.refused("NoPair", minor, one, good, thing)
            for other in wrong:
                self.refused("NoPair", minor, one, thing, other)

    def test_unlike_many(self):
        one = unit(4)
        for many in range(1, 5):
            for other in range(1, 5):
                if many != other:
                    self.refused("NoPair", minor, one, tuple(range(many)), tuple(range(other)))

    def test_places_beyond_each_table(self):
        for n in range(1, 8):
            self.refused("NoPair", minor, unit(n), (n,), (0,))
            self.refused("NoPair", minor, unit(n), (0,), (n,))
            self.refused("NoPair", minor, unit(n), (-1,), (0,))
            self.assertEqual(minor(unit(n), (n - 1,), (n - 1,)), num(1))


class Leads(TableCase):
    def look(self, one):
        told = self.asked(leads, one)
        self.assertColumn(told, len(one))
        for at, number in enumerate(told):
            first = tuple(range(at + 1))
            self.assertEqual(number, minor(one, first, first))
            if at < 5:
                self.assertEqual(number, determinant_of(part_of(one, first, first)))

    def test_leads(self):
        chance = Chance(134)
        for n in range(1, 8):
            for figures in (1, 12):
                self.look(chance_table(chance, n, figures))
            self.look(unit(n))
            self.look([made(*[chance.pick([0, 0, 1, -1]) for _ in range(n)]) for _ in range(n)])
        self.look(chance_table(chance, 4, 300))

    def test_known(self):
        self.assertEqual(leads(table((1, 2, 3), (4, 5, 6), (7, 8, 10))), made(1, -3, -3))
        self.assertEqual(leads(table((Fraction(-2, 3),))), made(Fraction(-2, 3)))
        self.assertEqual(leads(table((0,))), made(0))
        self.assertEqual(leads(table((0, 1, 0), (1, 0, 0), (0, 0, 1))), made(0, -1, -1))
        self.assertEqual(leads(table((0, 0, 1), (0, 1, 0), (1, 0, 0))), made(0, 0, -1))

    def agree(self, p, numbers):
        """That all roots lie left is told alike by leads of the steep table and by parts."""
        if p[-1][0] < 0:
            p = [(-top, bottom) for top, bottom in p]
        told = all(number[0] > 0 for number in leads(steep(p)))
        self.assertIs(told, numbers[0] == len(p) - 1)
        self.assertIs(told, parts_of(p)[0] == "parts")

    def test_dying_or_not(self):
        for p, numbers in known_polynomials(Chance(135), 120, 7):
            if len(p) > 1:
                self.agree(p, numbers)

    def test_dying_or_not_at_the_edges(self):
        self.agree(made(1, 1), (1, 0, 0))
        self.agree(made(-1, 1), (0, 0, 1))
        self.agree(made(0, 1), (0, 1, 0))
        self.agree(product([1, 0, 1], [1, 1]), (1, 2, 0))
        self.agree(product([-1, 0, 1], [2, 1]), (2, 0, 1))
        self.agree(made(1, 0, 3, 0, 1), (0, 4, 0))
        self.agree(made(20, 1, 1, 1), (1, 0, 2))

    def test_no_minor_is_below_0_where_all_die(self):
        for p, numbers in known_polynomials(Chance(136), 40, 5):
            if len(p) > 1 and numbers[0] == len(p) - 1:
                one = steep([(abs(top), bottom) for top, bottom in p])
                for many in range(1, len(p)):
                    for rows in places(len(one), many):
                        for columns in places(len(one), many):
                            self.assertGreaterEqual(frac(minor(one, rows, columns)), 0)
