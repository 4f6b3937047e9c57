"""Point 3: the three numbers, and that all roots lie left, are told alike by all ways."""

from fractions import Fraction

from helper import Chance, RestCase, chance_table, known_polynomials, made, num, product
from restward.between import points_between
from restward.divisions import divisions, undivided
from restward.flows import flow_form, flow_said, poly_table, table_poly
from restward.minors import leads, steep
from restward.parts import from_parts, parts_of
from restward.polys import scaled, worth
from restward.squares import hermite, signs
from restward.steps import steps_of
from restward.tables import worth_at
from restward.three import dies, three
from restward.ticks import circle, ticked


def polynomials():
    """Polynomials of a degree from 1 to 7."""
    chance = Chance(181)
    found = [p for p, numbers in known_polynomials(chance, 100, 7)]
    for degree in range(1, 8):
        found += [chance.polynomial(degree, figures) for figures in (1, 1, 12)]
        found += [made(*[chance.pick([0, 1, 1, 2, -1]) for _ in range(degree)], chance.pick([1, -1]))
                  for _ in range(12)]
    # With the root 1, also with others to the left alone; with roots on the axis; opposite to one another.
    found += [product([-1, 1], [1, 1]), product([-1, 1], [2, 1], [3, 1]), product([-1, 1], [-1, 1], [1, 0, 1])]
    found += [product([1, 0, 1], [1, 1]), product([-4, 0, 1], [1, 1]), made(0, 1), made(1, 0, 0, 0, 0, 0, 0, 1)]
    return [p for p in found if len(p) > 1]


class Alike(RestCase):
    def test_three_numbers(self):
        only = 0
        for p in polynomials():
            numbers = three(p)
            self.assertEqual(sum(numbers), len(p) - 1)
            quotients, last = divisions(p)
            self.assertEqual(undivided(quotients, last), p)
            left, on, right = three(last)
            plus, minus, none = signs(hermite(p))
            self.assertEqual((plus + left, on, minus + right), numbers)
            if worth(p, num(1)) != num(0):
                self.assertEqual(circle(ticked(p)), numbers)
            if len(p) <= 5:
                word, form = flow_form(poly_table(p))
                if word == "form":
                    only += 1
                    self.assertEqual(signs(form), (numbers[0], numbers[2], numbers[1]))
        self.assertGreater(only, 20)

    def test_all_roots_lie_left(self):
        told = []
        for p in polynomials():
            n = len(p) - 1
            above = scaled(num(1 if p[-1][0] > 0 else -1), p)
            steps = steps_of(ticked(p))
            ways = [parts_of(p)[0] == "parts", all(number[0] > 0 for number in leads(steep(above))),
                    points_between(p)[0] == "points", steps[0] == "steps" and len(steps[1]) == n]
            if n <= 4:
                ways.append(flow_said(poly_table(p))[0] == "dies")
            self.assertEqual(set(ways), {dies(p)})
            told.append(dies(p))
        self.assertGreater(told.count(True), 40)
        self.assertGreater(told.count(False), 40)

    def test_parts_above_0_die(self):
        chance = Chance(182)
        for many in range(8):
            p = from_parts(made(*[abs(chance.fraction(12)) + 1 for _ in range(many)]), num(chance.fraction(12) or 1))
            self.assertIs(dies(p), True)

    def test_never_papers_for_both(self):
        chance = Chance(183)
        for _ in range(60):
            n = chance.whole(1, 4)
            one = [made(*[chance.pick([0, 1, -1, 2, Fraction(1, 3)]) for _ in range(n)]) for _ in range(n)]
            one = chance.pick([one, chance_table(chance, n, 12)])
            said = flow_said(one)
            self.assertIs(said[0] == "dies", dies(table_poly(one)))
            if said[0] == "grows":
                self.assertLess(worth_at(said[1], said[2])[0], 0)
