from fractions import Fraction

from helper import Chance, TableCase, chance_table, determinant_of, frac, made, num, product_of, table
from restward.tables import back_of, determinant, made_of, table_sum, table_times, turned, unit, worth_at


def samples():
    chance = Chance(81)
    found = [chance_table(chance, n, figures, bottoms)
             for n in range(1, 8) for figures, bottoms in ((1, False), (1, True), (12, True), (12, False))]
    found += [unit(n) for n in range(1, 8)]
    found += [[made(*[0] * n) for _ in range(n)] for n in (1, 2, 7)]
    return found + [chance_table(chance, 3, 300), chance_table(chance, 7, 300, False)]


class Units(TableCase):
    def test_units(self):
        for n in range(1, 8):
            told = self.asked(unit, n)
            self.assertTable(told, n)
            self.assertEqual(told, [[num(int(i == j)) for j in range(n)] for i in range(n)])

    def test_rows_are_lists_of_their_own(self):
        told = unit(3)
        told[0][2] = num(5)
        told[1].append(num(7))
        self.assertEqual(told[2], made(0, 0, 1))
        self.assertEqual(unit(3), table((1, 0, 0), (0, 1, 0), (0, 0, 1)))


class SumsAndProducts(TableCase):
    def test_sums(self):
        chance = Chance(82)
        for one in samples():
            n = len(one)
            other = chance_table(chance, n, 12)
            told = self.asked(table_sum, one, other)
            self.assertTable(told, n)
            self.assertEqual(told, [[num(frac(a) + frac(b)) for a, b in zip(*rows)] for rows in zip(one, other)])

    def test_products(self):
        chance = Chance(83)
        for one in samples():
            n = len(one)
            other = chance_table(chance, n, 12)
            for a, b in ((one, other), (other, one), (one, one)):
                told = self.asked(table_times, a, b)
                self.assertTable(told, n)
                self.assertTrue(told == product_of(a, b))

    def test_known(self):
        one, other = table((1, 2), (3, 4)), table((0, 1), (1, 0))
        self.assertEqual(table_times(one, other), table((2, 1), (4, 3)))
        self.assertEqual(table_times(other, one), table((3, 4), (1, 2)))
        self.assertEqual(table_sum(one, other), table((1, 3), (4, 4)))

    def test_by_the_unit(self):
        for one in samples():
            self.assertEqual(self.asked(table_times, one, unit(len(one))), one)
            self.assertEqual(self.asked(table_times, unit(len(one)), one), one)

    def test_the_same_table_twice(self):
        one = table((1, 2), (3, 4))
        self.assertEqual(self.asked(table_sum, one, one), table((2, 4), (6, 8)))

    def test_unlike_many_rows_are_refused(self):
        for n in range(1, 8):
            for other in range(1, 8):
                if n != other:
                    self.refused("NoPair", table_sum, unit(n), unit(other))
                    self.refused("NoPair", table_times, unit(n), unit(other))

    def test_turned(self):
        for one in samples():
            told = self.asked(turned, one)
            self.assertTable(told, len(one))
            self.assertEqual(told, [list(column) for column in zip(*one)])
            self.assertEqual(turned(told), one)


class Determinants(TableCase):
    def test_by_all_orders(self):
        chance = Chance(84)
        for one in samples():
            if len(one) < 6:
                told = self.asked(determinant, one)
                self.assertNumber(told)
                self.assertTrue(told == determinant_of(one))
        for _ in range(60):
            n = chance.whole(1, 5)
            one = [made(*[chance.pick([0, 0, 1, -1, Fraction(1, 2)]) for _ in range(n)]) for _ in range(n)]
            self.assertEqual(determinant(one), determinant_of(one))

    def test_n_7(self):
        chance = Chance(85)
        one = chance_table(chance, 7, 1)
        self.assertEqual(determinant(one), determinant_of(one))

    def test_of_a_triangle(self):
        rows = [[num(i + 2 * j + 1) if j >= i else num(0) for j in range(7)] for i in range(7)]
        many = 1
        for i in range(7):
            many *= 3 * i + 1
        self.assertEqual(determinant(rows), num(many))
        self.assertEqual(determinant(turned(rows)), num(many))
        self.assertEqual(determinant(rows[::-1]), num(-many))

    def test_of_one_row(self):
        self.assertEqual(determinant(table((Fraction(-2, 3),))), num(-2, 3))
        self.assertEqual(determinant(table((0,))), num(0))

    def test_0_at_the_first_place(self):
        self.assertEqual(determinant(table((0, 1), (1, 0))), num(-1))
        self.assertEqual(determinant(table((0, 2, 1), (3, 0, 0), (0, 0, 5))), num(-30))
        self.assertEqual(determinant(table((0, 0, 1), (1, 0, 0), (0, 1, 0))), num(1))
        self.assertEqual(determinant(table((1, 2, 3), (2, 4, 1), (1, 1, 1))), num(-5))

    def test_0_without_a_row_of_noughts(self):
        self.assertEqual(determinant(table((1, 2), (2, 4))), num(0))
        self.assertEqual(determinant(table((1, 2, 3), (4, 5, 6), (7, 8, 9))), num(0))


class Backs(TableCase):
    def look(self, one):
        n = len(one)
        told = self.asked(back_of, one)
        self.assertTable(told, n)
        self.assertTrue(product_of(told, one) == unit(n))
        self.assertTrue(product_of(one, told) == unit(n))
        return told

    def test_backs(self):
        for one in samples():
            if determinant(one) != num(0):
                self.look(one)
            else:
                self.refused("NoBack", back_of, one)

    def test_with_noughts(self):
        chance = Chance(86)
        for _ in range(80):
            n = chance.whole(1, 7)
            one = [made(*[chance.pick([0, 0, 1, -1, 2]) for _ in range(n)]) for _ in range(n)]
            if determinant(one) != num(0):
                self.look(one)
            else:
                self.refused("NoBack", back_of, one)

    def test_known(self):
        self.assertEqual(self.look(table((1, 2), (3, 4))), table((-2, 1), (Fraction(3, 2), Fraction(-1, 2))))
        self.assertEqual(self.look(table((0, 1), (1, 0))), table((0, 1), (1, 0)))
        self.assertEqual(self.look(table((0, -2), (Fraction(1, 3), 0))), table((0, 3), (Fraction(-1, 2), 0)))
        self.assertEqual(self.look(table((Fraction(-2, 3),))), table((Fraction(-3, 2),)))

    def test_n_7_of_known_rows(self):
        rows = [[num(min(i, j) + 1) for j in range(7)] for i in range(7)]
        expected = [[num(2 if i == j and i < 6 else 1 if i == j else -1 if abs(i - j) == 1 else 0) for j in range(7)]
                    for i in range(7)]
        self.assertEqual(determinant(rows), num(1))
        self.assertEqual(self.look(rows), expected)

    def test_and_back_again(self):
        chance = Chance(87)
        for n in range(1, 8):
            one = chance_table(chance, n, 12)
            self.assertEqual(back_of(back_of(one)), one)

    def test_determinant_of_0_is_refused(self):
        for one in (table((0,)), table((1, 2), (2, 4)), table((1, 2, 3), (4, 5, 6), (7, 8, 9)),
                    table((0, 0), (1, 2)), table((0, 1), (0, 2)), [made(*range(k, k + 7)) for k in range(7)]):
            self.refused("NoBack", back_of, one)


class Columns(TableCase):
    def test_what_is_made(self):
        chance = Chance(88)
        for one in samples():
            n = len(one)
            column = made(*chance.values(n, 12))
            made_column = [num(sum(frac(a) * frac(b) for a, b in zip(row, column))) for row in one]
            told = self.asked(made_of, one, column)
            self.assertColumn(told, n)
            self.assertEqual(told, made_column)
            told = self.asked(worth_at, one, column)
            self.assertNumber(told)
            self.assertEqual(told, num(sum(frac(a) * frac(b) for a, b in zip(made_column, column))))

    def test_known(self):
        one = table((1, 2), (3, 4))
        self.assertEqual(made_of(one, made(5, -1)), made(3, 11))
        self.assertEqual(worth_at(one, made(5, -1)), num(4))
        self.assertEqual(worth_at(one, made(0, 0)), num(0))
        self.assertEqual(made_of(table((Fraction(1, 2),)), made(Fraction(1, 3))), made(Fraction(1, 6)))
        self.assertEqual(worth_at(table((Fraction(1, 2),)), made(Fraction(1, 3))), num(1, 18))

    def test_the_unit_leaves_it(self):
        for n in range(1, 8):
            column = made(*range(n))
            self.assertEqual(self.asked(made_of, unit(n), column), column)

    def test_another_length_is_refused(self):
        for n in range(1, 8):
            for many in range(9):
                if n != many:
                    self.refused("NoPair", made_of, unit(n), made(*range(many)))
                    self.refused("NoPair", worth_at, unit(n), made(*range(many)))
