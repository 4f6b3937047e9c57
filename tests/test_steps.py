from fractions import Fraction

from helper import (
    Chance, RestCase, chosen_circle, circle_factors, frac, known_product, made, num, poly_of_steps, product,
)
from restward.steps import from_steps, steps_of
from restward.ticks import circle


def small(chance, figures):
    """A number strictly between -1 and 1."""
    value = chance.fraction(figures)
    while abs(value) == 1:
        value = chance.fraction(figures)
    return value if abs(value) < 1 else 1 / value


class There(RestCase):
    def look(self, p, numbers):
        told = self.asked(steps_of, p)
        self.assertIs(type(told), tuple)
        if numbers[0] < len(p) - 1:
            self.assertEqual(told, ("not",) + numbers)
            self.assertEqual([type(each) for each in told[1:]], [int] * 3)
            return
        word, steps, last = told
        self.assertEqual(word, "steps")
        self.assertIs(type(steps), list)
        self.assertEqual(len(steps), len(p) - 1)
        for step in steps:
            self.assertNumber(step)
            self.assertLess(abs(frac(step)), 1)
        self.assertEqual(last, p[-1])
        self.assertTrue(poly_of_steps(steps, last) == p)
        self.assertTrue(self.asked(from_steps, steps, last) == p)

    def test_known(self):
        self.assertEqual(steps_of(made(1, 2)), ("steps", made(Fraction(1, 2)), num(2)))
        self.assertEqual(steps_of(made(0, -3)), ("steps", made(0), num(-3)))
        self.assertEqual(steps_of(made(Fraction(1, 3), Fraction(2, 3), 1)),
                         ("steps", made(Fraction(1, 2), Fraction(1, 3)), num(1)))
        self.assertEqual(steps_of(made(2, 1)), ("not", 0, 0, 1))
        self.assertEqual(steps_of(made(1, 1)), ("not", 0, 1, 0))
        self.assertEqual(steps_of(made(-2, 3, 2)), ("not", 1, 0, 1))

    def test_each_factor(self):
        for factor in circle_factors(Chance(171)):
            for often in (1, 2, 3):
                for lead in (1, -3):
                    self.look(*known_product(lead, [factor] * often))

    def test_many_factors(self):
        for p, numbers in chosen_circle(Chance(172), 200, 14):
            self.look(p, numbers)

    def test_a_first_step_beyond_but_not_the_last(self):
        # The last step is within, yet not all roots are.
        self.look(product([3, 1], [Fraction(1, 9), 1]), (1, 0, 1))
        self.look(product([3, 1], [Fraction(1, 9), 1], [0, 1]), (2, 0, 1))
        self.look(product([1, 1], [Fraction(1, 9), 1]), (1, 1, 0))
        self.look(product([1, 0, 1], [0, 1], [Fraction(1, 9), 1]), (2, 2, 0))
        self.look(product([2, 1], [Fraction(1, 2), 1], [Fraction(1, 9), 1]), (2, 0, 1))

    def test_turned_about_with_noughts_at_the_end(self):
        self.look(made(0, 0, 0, 1), (3, 0, 0))
        self.look(made(*[0] * 14, Fraction(-2, 7)), (14, 0, 0))
        self.look(made(0, 0, 1, 2), (3, 0, 0))
        self.look(made(0, 0, 2, 1), (2, 0, 1))
        self.assertEqual(steps_of(made(0, 0, 1, 2)), ("steps", made(Fraction(1, 2), 0, 0), num(2)))

    def test_of_a_number_alone(self):
        for value in (1, -1, Fraction(2, 3)):
            self.look(made(value), (0, 0, 0))
            self.assertEqual(steps_of(made(value)), ("steps", [], num(value)))

    def test_nought_is_refused(self):
        self.refused("NoPolynomial", steps_of, [])


class Back(RestCase):
    def look(self, steps, last):
        p = self.asked(from_steps, steps, last)
        self.assertPolynomial(p)
        self.assertEqual(len(p), len(steps) + 1)
        self.assertTrue(p == poly_of_steps(steps, last))
        self.assertTrue(self.asked(steps_of, p) == ("steps", steps, last))
        self.assertEqual(circle(p), (len(steps), 0, 0))

    def test_rows(self):
        chance = Chance(173)
        for many in range(15):
            for figures in (1, 12):
                steps = made(*[small(chance, figures) for _ in range(many)])
                self.look(steps, num(chance.fraction(figures) or -1))
            self.look(made(*[chance.pick([0, 0, Fraction(1, 2), Fraction(-1, 3)]) for _ in range(many)]), num(-5, 3))

    def test_known(self):
        self.assertEqual(self.asked(from_steps, made(Fraction(1, 2)), num(2)), made(1, 2))
        self.assertEqual(self.asked(from_steps, made(Fraction(1, 2), Fraction(1, 3)), num(1)),
                         made(Fraction(1, 3), Fraction(2, 3), 1))
        self.assertEqual(self.asked(from_steps, made(Fraction(1, 3), Fraction(1, 2)), num(1)),
                         made(Fraction(1, 2), Fraction(1, 2), 1))
        self.assertEqual(self.asked(from_steps, made(0, Fraction(1, 2)), num(4)), made(2, 0, 4))

    def test_no_steps_at_all(self):
        for value in (1, -1, Fraction(-3, 7)):
            self.look([], num(value))
            self.assertEqual(from_steps([], num(value)), made(value))

    def test_steps_of_0(self):
        self.look(made(0), num(3))
        self.look(made(*[0] * 14), num(-1, 3))

    def test_fourteen_near_to_the_edges(self):
        near = 1 - Fraction(1, 10 ** 12)
        self.look(made(*[near] * 14), num(1))
        self.look(made(*[-near] * 14), num(-1))

    def test_three_hundred_figures(self):
        chance = Chance(174)
        self.look(made(*[small(chance, 300) for _ in range(4)]), num(chance.fraction(300)))

    def test_lists_that_are_no_steps(self):
        good = made(Fraction(1, 2), 0)
        for wrong in (num(1), num(-1), num(2), num(-2), num(3, 2), num(-3, 2), (2, 4), (0, 2), (1, 0), (1, -2),
                      (-1, -2), (True, 2), (False, 1), (0, True), 1, 0, True, False, None, "0", "", "1/2", [1, 2],
                      [0, 1], [], (), (0,), (0, 1, 1), [(0, 1)], ((0, 1), (0, 1)), (None, 1), (0, None), ("0", 1),
                      ((0,), 1), ([0], 1)):
            for at in range(3):
                self.refused("NoSteps", from_steps, good[:at] + [wrong] + good[at:], num(1))
            self.refused("NoSteps", from_steps, [wrong], num(-2))

    def test_more_than_fourteen(self):
        self.refused("NoSteps", from_steps, made(*[0] * 15), num(1))
        self.refused("NoSteps", from_steps, made(*[Fraction(1, 2)] * 100), num(1))

    def test_last_numbers_that_are_none(self):
        for last in (num(0), (2, 4), (0, 3), (1, 0), (1, -1), (True, 1), (1, True), (False, 1), 1, 0, True, None, "1",
                     [1, 1], [], (), (1,), (1, 1, 1), [num(1)], (num(1), num(1)), (1, "1"), ((), 1)):
            self.refused("NoSteps", from_steps, made(0, Fraction(1, 2)), last)
            self.refused("NoSteps", from_steps, [], last)

    def test_things_of_other_kinds_in_either_place(self):
        things = (None, True, False, 0, 5, "x", "", (), tuple(made(0, Fraction(1, 2))), num(1), (num(0),), [None], [[]],
                  [()], "0 0", ([],), [made(0)], [False, False])
        for thing in things:
            self.refused("NoSteps", from_steps, thing, num(1))
            for other in things:
                if other != num(1):
                    self.refused("NoSteps", from_steps, thing, other)
                    self.refused("NoSteps", from_steps, made(0), other)

    def test_what_was_told_put_otherwise(self):
        told = steps_of(made(1, 2, 5, 9))
        word, steps, last = told
        self.refused("NoSteps", from_steps, told, last)
        self.refused("NoSteps", from_steps, steps, steps)
        self.refused("NoSteps", from_steps, tuple(steps), last)
        self.refused("NoSteps", from_steps, last, steps)
        self.refused("NoSteps", from_steps, [list(step) for step in steps], last)
        self.refused("NoSteps", from_steps, [(bottom, top) for top, bottom in steps], last)
        self.refused("NoSteps", from_steps, steps + [last], last)
        self.assertEqual(circle(self.asked(from_steps, steps[1:] + steps, (-last[0], last[1]))), (5, 0, 0))
