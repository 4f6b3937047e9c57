from fractions import Fraction

from helper import (
    Chance, TableCase, chance_table, chosen_circle, diagonal, frac, fracs, known_polynomials, led, like, made, noughts,
    num, product, product_of, table, with_back,
)
from restward.flows import flow_said, poly_table, table_poly
from restward.squares import signs
from restward.tables import turned, unit, worth_at
from restward.three import three
from restward.ticks import circle
from restward.walks import tick_form, tick_said, turn_back, turn_of, walk


def less_unit(form):
    return [[num(frac(number) - (i == j)) for j, number in enumerate(row)] for i, row in enumerate(form)]


def tick(one, x):
    """What the table makes of a column, by Python's own fractions."""
    return [sum(a * b for a, b in zip(fracs(row), x)) for row in one]


def way_of(one, column, many):
    way = [fracs(column)]
    for _ in range(many):
        way.append(tick(one, way[-1]))
    return [made(*x) for x in way]


def worth_of(form, column):
    x = fracs(column)
    return sum(a * b for a, b in zip(tick(form, x), x))


def samples():
    chance = Chance(201)
    found = [chance_table(chance, n, figures, bottoms)
             for n in range(1, 5) for figures, bottoms in ((1, False), (1, True), (12, True), (12, False))]
    for n in range(1, 5):
        found += [unit(n), noughts(n), diagonal([-1] * n), diagonal([Fraction(1, 2)] * n)]
        found += [[made(*[chance.pick([0, 0, 1, -1, Fraction(1, 3)]) for _ in range(n)]) for _ in range(n)]
                  for _ in range(20)]
    return found


class Ticks(TableCase):
    def look_at_kept(self, one, form):
        n = len(one)
        self.assertTable(form, n)
        self.assertEqual(turned(form), form)
        self.assertNotEqual(form, noughts(n))
        self.assertTrue(led(form, one) == form)

    def look(self, one):
        """The word of what is said, once form and saying were looked at."""
        n = len(one)
        within, on, beyond = circle(table_poly(one))
        told = self.asked(tick_form, one)
        said = self.asked(tick_said, one)
        self.assertIs(type(told), tuple)
        self.assertIs(type(said), tuple)
        word, form = told
        if word == "kept":
            self.assertLess(within, n)
            self.assertEqual((said[0], len(said)), ("kept", 2))
            self.look_at_kept(one, form)
            self.look_at_kept(one, said[1])
            return "kept"
        self.assertEqual(word, "form")
        self.assertTable(form, n)
        self.assertEqual(turned(form), form)
        self.assertTrue(led(form, one) == less_unit(form))
        self.assertEqual((within, beyond, 0), signs(form))
        self.assertTrue(said[1] == form)
        if within == n:
            self.assertEqual(said, ("dies", form))
            return "dies"
        self.assertEqual((said[0], len(said)), ("grows", 3))
        self.assertColumn(said[2], n)
        self.assertLess(worth_of(form, said[2]), 0)
        return "grows"

    def test_samples(self):
        words = [self.look(one) for one in samples()]
        self.assertEqual(set(words), {"dies", "grows", "kept"})

    def test_known_factors_led_otherwise(self):
        chance = Chance(202)
        words = []
        for p, numbers in chosen_circle(chance, 100, 4):
            n = len(p) - 1
            if n > 0:
                word = self.look(poly_table(p))
                self.assertEqual(word == "dies", numbers[0] == n)
                if numbers[1]:
                    self.assertEqual(word, "kept")
                self.assertEqual(self.look(like(poly_table(p), with_back(chance, n, 1))), word)
                words.append(word)
        self.assertEqual(set(words), {"dies", "grows", "kept"})

    def test_known(self):
        self.assertEqual(tick_form(table((Fraction(1, 2),))), ("form", table((Fraction(4, 3),))))
        self.assertEqual(tick_said(table((Fraction(-1, 2),))), ("dies", table((Fraction(4, 3),))))
        self.assertEqual(tick_form(table((2,))), ("form", table((Fraction(-1, 3),))))
        self.assertEqual(tick_form(diagonal([0, 3])), ("form", diagonal([1, Fraction(-1, 8)])))
        self.assertEqual(tick_form(table((0, 1), (0, 0))), ("form", diagonal([1, 2])))

    def test_one_row(self):
        self.assertEqual(self.look(table((1 - Fraction(1, 10 ** 12),))), "dies")
        self.assertEqual(self.look(table((-1 + Fraction(1, 10 ** 12),))), "dies")
        self.assertEqual(self.look(table((1 + Fraction(1, 10 ** 12),))), "grows")
        self.assertEqual(self.look(table((-1 - Fraction(1, 10 ** 12),))), "grows")
        self.assertEqual(self.look(table((1,))), "kept")
        self.assertEqual(self.look(table((-1,))), "kept")
        self.assertEqual(self.look(table((0,))), "dies")

    def test_noughts_and_the_unit(self):
        for n in range(1, 5):
            self.assertEqual(self.asked(tick_form, noughts(n)), ("form", unit(n)))
            self.assertEqual(self.look(noughts(n)), "dies")
            self.assertEqual(self.look(unit(n)), "kept")
            self.assertEqual(self.look(diagonal([-1] * n)), "kept")

    def test_kept(self):
        # On the circle, at 1, at -1, at a and at 1 / a; often; also where others die or grow besides.
        a = Fraction(3, 5)
        on = [1, -2 * a, 1]
        self.assertEqual(self.look(poly_table(product(on))), "kept")
        self.assertEqual(self.look(poly_table(product(on, on))), "kept")
        self.assertEqual(self.look(poly_table(product([1, 0, 1], [-3, 1], [0, 1]))), "kept")
        self.assertEqual(self.look(diagonal([0, a, 1])), "kept")
        self.assertEqual(self.look(diagonal([0, a, -1, 7])), "kept")
        self.assertEqual(self.look(diagonal([a, 1 / a])), "kept")
        self.assertEqual(self.look(diagonal([-a, -1 / a, 0, 9])), "kept")
        self.assertEqual(self.look(poly_table(product([4, 0, 1], [Fraction(1, 4), 0, 1]))), "kept")
        self.assertEqual(self.look(poly_table(product([-1, 1], [-1, 1], [1, 1], [1, 1]))), "kept")
        # At a and at -1 / a alone no form is kept.
        self.assertEqual(self.look(diagonal([a, -1 / a])), "grows")

    def test_roots_that_stand_often(self):
        half = [Fraction(-1, 2), 1]
        self.assertEqual(self.look(poly_table(product(*[half] * 4))), "dies")
        self.assertEqual(self.look(poly_table(made(0, 0, 0, 0, 1))), "dies")
        self.assertEqual(self.look(poly_table(product(*[[-2, 1]] * 4))), "grows")
        self.assertEqual(self.look(poly_table(product(half, half, [3, 1], [3, 1]))), "grows")

    def test_a_form_below_0_at_one_place_alone(self):
        by = table((1, 2, 0, 1), (0, 1, 3, 0), (1, 0, 1, 2), (0, 1, 0, 1))
        half, third, fifth = Fraction(1, 2), Fraction(-1, 3), Fraction(1, 5)
        self.assertEqual(self.look(like(diagonal([half, third, 3, fifth]), by)), "grows")
        self.assertEqual(self.look(like(diagonal([half, third, 0, fifth]), by)), "dies")

    def test_twelve_and_more_figures(self):
        chance = Chance(203)
        for n in range(1, 5):
            one = chance_table(chance, n, 12, False)
            self.look(one)
            small = [[num(frac(number) / 10 ** 13) for number in row] for row in one]
            self.assertEqual(self.look(small), "dies")
        self.look(chance_table(chance, 2, 300))
        self.look(chance_table(chance, 4, 60))

    def test_what_was_told_may_be_asked_of_again(self):
        chance = Chance(204)
        one = chance_table(chance, 2, 40)
        self.look(tick_form(tick_form(one)[1])[1])


class Walks(TableCase):
    def look(self, one, column, many):
        told = self.asked(walk, one, column, many)
        self.assertIs(type(told), list)
        self.assertEqual(len(told), many + 1)
        for each in told:
            self.assertColumn(each, len(one))
        self.assertTrue(told == way_of(one, column, many))
        return told

    def test_walks(self):
        chance = Chance(205)
        for one in samples():
            n = len(one)
            column = made(*chance.values(n, chance.pick([1, 12])))
            self.look(one, column, chance.pick([0, 1, 2, 5, 20]) if n < 3 else chance.pick([0, 1, 4]))

    def test_known(self):
        one = table((1, 1), (1, 0))
        self.assertEqual(walk(one, made(1, 0), 5), [made(*x) for x in ((1, 0), (1, 1), (2, 1), (3, 2), (5, 3), (8, 5))])
        self.assertEqual(walk(table((0, 1), (0, 0)), made(2, 3), 3), [made(2, 3), made(3, 0), made(0, 0), made(0, 0)])

    def test_no_tick(self):
        for n in range(1, 5):
            column = made(*range(n))
            self.assertEqual(self.asked(walk, unit(n), column, 0), [column])

    def test_a_way_that_stays_where_it_is(self):
        told = self.asked(walk, unit(3), made(1, 2, 3), 20)
        self.assertEqual(told, [made(1, 2, 3)] * 21)
        told[0].append(num(7))
        self.assertEqual(told[1:], [made(1, 2, 3)] * 20)

    def test_fifty_figures(self):
        chance = Chance(206)
        self.look(chance_table(chance, 4, 50), made(*chance.values(4, 50)), 3)
        self.look(chance_table(chance, 1, 50), made(*chance.values(1, 50)), 20)
        self.look(chance_table(chance, 4, 50, False), made(*chance.values(4, 50, False)), 20)

    def test_other_lengths_are_refused(self):
        for n in range(1, 5):
            for many in (0, n - 1, n + 1, 7):
                for ticks in (0, 1, 20):
                    self.refused("NoPair", walk, unit(n), made(*[1] * many), ticks)

    def test_the_worth_falls_by_the_square_of_the_way(self):
        chance = Chance(207)
        for p, numbers in chosen_circle(chance, 40, 4):
            n = len(p) - 1
            one = like(poly_table(p), with_back(chance, n, 1)) if n else None
            said = tick_said(one) if n else ("none",)
            if said[0] in ("dies", "grows"):
                start = said[2] if said[0] == "grows" else made(*chance.values(n, 1))
                way = walk(one, start, 6)
                worths = [worth_of(said[1], x) for x in way]
                for x, here, there in zip(way, worths, worths[1:]):
                    self.assertEqual(there, here - sum(value * value for value in fracs(x)))
                if said[0] == "grows":
                    self.assertLess(worths[0], 0)
                    self.assertLess(worths[-1], worths[0])
            if said[0] == "kept":
                start = made(*chance.values(n, 1))
                self.assertEqual(len({worth_of(said[1], x) for x in walk(one, start, 6)}), 1)

    def test_twenty_ticks(self):
        one = table((Fraction(1, 2), 1), (0, Fraction(-1, 3)))
        word, form = tick_said(one)
        self.assertEqual(word, "dies")
        way = walk(one, made(3, -5), 20)
        worths = [worth_at(form, x) for x in way]
        fallen = sum(value * value for x in way[:-1] for value in fracs(x))
        self.assertEqual(frac(worths[0]) - frac(worths[20]), fallen)
        self.assertTrue(all(worth[0] > 0 for worth in worths))


class Turns(TableCase):
    def look(self, one):
        """Both turns against what makes them, and there and back."""
        n = len(one)
        added = [[num(frac(number) + (i == j)) for j, number in enumerate(row)] for i, row in enumerate(one)]
        taken = [[num((i == j) - frac(number)) for j, number in enumerate(row)] for i, row in enumerate(one)]
        at_1, on, beyond = [sum(frac(number) * x ** i for i, number in enumerate(table_poly(one))) for x in (1, -1, 0)]
        if at_1 == 0:
            self.refused("NoBack", turn_of, one)
        else:
            told = self.asked(turn_of, one)
            self.assertTable(told, n)
            self.assertTrue(product_of(told, taken) == added)
            self.assertTrue(self.asked(turn_back, told) == one)
        if on == 0:
            self.refused("NoBack", turn_back, one)
        else:
            told = self.asked(turn_back, one)
            self.assertTable(told, n)
            self.assertTrue(product_of(told, added) == less_unit(one))
            self.assertTrue(self.asked(turn_of, told) == one)

    def test_samples(self):
        for one in samples():
            self.look(one)
        self.look(chance_table(Chance(208), 3, 100))

    def test_known(self):
        self.assertEqual(turn_of(table((3,))), table((-2,)))
        self.assertEqual(turn_back(table((3,))), table((Fraction(1, 2),)))
        self.assertEqual(turn_of(noughts(4)), unit(4))
        self.assertEqual(turn_back(unit(4)), noughts(4))
        self.assertEqual(turn_back(noughts(2)), diagonal([-1, -1]))
        self.assertEqual(turn_of(table((0, 1), (-1, 0))), table((0, 1), (-1, 0)))

    def test_without_a_back(self):
        for n in range(1, 5):
            self.refused("NoBack", turn_of, unit(n))
            self.refused("NoBack", turn_back, diagonal([-1] * n))
            self.refused("NoBack", turn_of, diagonal([5] * (n - 1) + [1]))
            self.refused("NoBack", turn_back, diagonal([5] * (n - 1) + [-1]))
        by = table((1, 2), (3, 5))
        self.refused("NoBack", turn_of, like(diagonal([1, -1]), by))
        self.refused("NoBack", turn_back, like(diagonal([1, -1]), by))

    def test_flows_become_ticks(self):
        chance = Chance(209)
        for p, numbers in known_polynomials(chance, 60, 4):
            n = len(p) - 1
            if n and sum(fracs(p)) != 0:
                one = poly_table(p)
                there = turn_of(one)
                self.assertEqual(circle(table_poly(there)), numbers)
                self.assertEqual(tick_said(there)[0], flow_said(one)[0])
                self.assertEqual(three(table_poly(turn_back(there))), numbers)
