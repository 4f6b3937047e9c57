from fractions import Fraction

from helper import (
    Chance, Judge, TableCase, box_of, chance_table, chosen_circle, diagonal, frac, fracs, known_polynomials, like, made,
    noughts, num, product, table, with_back,
)
from restward.boxes import box_said, corners, widened
from restward.flows import flow_said, poly_table
from restward.looker import holds
from restward.papers import box_paper, flow_paper, poly_paper, tick_paper
from restward.parts import from_parts, parts_of
from restward.squares import signs
from restward.tables import unit
from restward.three import dies, three
from restward.walks import tick_said, turn_of

JUDGE = Judge()


def tables():
    chance = Chance(321)
    found = [table((0,)), table((-1,)), table((1,)), table((Fraction(1, 2),)), table((Fraction(-3, 2),))]
    for n in range(1, 5):
        found += [noughts(n), unit(n), diagonal([-1] * n), chance_table(chance, n, 1), chance_table(chance, n, 12)]
        found += [[made(*[chance.pick([0, 1, -1, Fraction(1, 3)]) for _ in range(n)]) for _ in range(n)]
                  for _ in range(6)]
    for p, numbers in list(known_polynomials(chance, 25, 4)) + list(chosen_circle(chance, 25, 4)):
        n = len(p) - 1
        if n:
            found += [poly_table(p), like(poly_table(p), with_back(chance, n, 1))]
    return found


class Polynomials(TableCase):
    def look(self, p, numbers):
        told = self.asked(poly_paper, p)
        self.assertIs(type(told), tuple)
        self.assertEqual(told[0], "dies" if numbers[0] == len(p) - 1 else "signs")
        self.assertTrue(told[1] == p)
        self.assertIs(holds(told), True)
        self.assertIs(JUDGE.says(told), True)
        return told

    def test_known_factors(self):
        words = [self.look(p, numbers)[0] for p, numbers in known_polynomials(Chance(322), 150, 7) if len(p) > 1]
        self.assertEqual(set(words), {"dies", "signs"})

    def test_all_degrees(self):
        chance = Chance(323)
        for degree in range(1, 8):
            for figures in (1, 12):
                p = chance.polynomial(degree, figures)
                self.look(p, three(p))
            parts = made(*[abs(chance.fraction(12)) + 1 for _ in range(degree)])
            self.assertEqual(self.look(from_parts(parts, num(3)), (degree, 0, 0)), ("dies", from_parts(parts, num(3)),
                                                                                    parts, num(3)))

    def test_known(self):
        self.assertEqual(poly_paper(made(6, 11, 6, 1)),
                         ("dies", made(6, 11, 6, 1), made(Fraction(1, 6), Fraction(3, 5), Fraction(5, 3)), num(6)))
        word, p, lead, numbers = self.look(made(20, 1, 1, 1), (1, 0, 2))
        self.assertEqual(sorted(number[0] > 0 for number in numbers), [False, False, True])

    def test_on_the_axis_and_opposite(self):
        self.look(made(0, 1), (0, 1, 0))
        self.look(made(*[0] * 7, 1), (0, 7, 0))
        self.look(made(1, 0, 1), (0, 2, 0))
        self.look(product([-1, 0, 1], [2, 1]), (2, 0, 1))
        self.look(product([1, 0, 0, 0, 1], [2, 1]), (3, 0, 2))

    def test_three_hundred_figures(self):
        chance = Chance(324)
        p = chance.polynomial(5, 300)
        self.look(p, three(p))
        told = self.look(product(*[[abs(chance.fraction(300)), 1] for _ in range(2)]), (2, 0, 0))
        # What was told is looked at again, however great, also with some of it put otherwise.
        self.assertIs(holds(told[:2] + (told[2][::-1], told[3])), False)
        self.assertIs(holds(told[:3]), False)

    def test_nought_and_degree_0_are_refused(self):
        for p in ([], made(1), made(Fraction(-2, 3))):
            self.refused("NoPolynomial", poly_paper, p)


class Tables(TableCase):
    def look(self, one, paper, said, ahead):
        told = self.asked(paper, one)
        self.assertIs(type(told), tuple)
        word = said(one)[0]
        self.assertEqual(told[0], ahead + {"dies": "falls"}.get(word, word))
        self.assertTrue(told[1] == one)
        self.assertIs(holds(told), True)
        self.assertIs(JUDGE.says(told), True)
        return word

    def test_flows(self):
        words = [self.look(one, flow_paper, flow_said, "") for one in tables()]
        self.assertEqual(set(words), {"dies", "grows", "kept"})

    def test_ticks(self):
        words = [self.look(one, tick_paper, tick_said, "tick ") for one in tables()]
        self.assertEqual(set(words), {"dies", "grows", "kept"})

    def test_known_roots(self):
        chance = Chance(325)
        for p, numbers in known_polynomials(chance, 40, 4):
            n = len(p) - 1
            if n:
                word = flow_paper(like(poly_table(p), with_back(chance, n, 1)))[0]
                self.assertEqual(word == "falls", numbers[0] == n)
                if numbers[1]:
                    self.assertEqual(word, "kept")
        for p, numbers in chosen_circle(chance, 40, 4):
            n = len(p) - 1
            if n:
                word = tick_paper(like(poly_table(p), with_back(chance, n, 1)))[0]
                self.assertEqual(word == "tick falls", numbers[0] == n)
                if numbers[1]:
                    self.assertEqual(word, "tick kept")

    def test_squares_of_what_falls(self):
        word, one, form, lead, numbers = flow_paper(table((0, 1), (-2, -3)))
        self.assertEqual(signs(form), (2, 0, 0))
        self.assertTrue(all(number[0] > 0 for number in numbers))

    def test_never_papers_for_both(self):
        """A paper that falls and one that grows or stays are never let by for the same table."""
        for one in tables():
            for paper, ahead in ((flow_paper, ""), (tick_paper, "tick ")):
                told = paper(one)
                n = len(one)
                if told[0] == ahead + "falls":
                    form = told[2]
                    for x in [made(*[int(i == at) for i in range(n)]) for at in range(n)]:
                        self.assertIs(holds((ahead + "grows", one, form, x)), False)
                    for other in (form, unit(n)):
                        self.assertIs(holds((ahead + "kept", one, other)), False)
                if told[0] == ahead + "grows":
                    self.assertIs(holds((ahead + "falls", one, told[2], unit(n), made(*[1] * n))), False)

    def test_many_figures(self):
        chance = Chance(326)
        for n, figures in ((1, 300), (2, 300), (4, 40)):
            one = chance_table(chance, n, figures)
            self.look(one, flow_paper, flow_said, "")
            self.look(one, tick_paper, tick_said, "tick ")
        self.look(turn_of(chance_table(chance, 2, 100)), tick_paper, tick_said, "tick ")

    def test_what_is_handed_in_isnt_told(self):
        one = table((0, 1), (-2, -3))
        for paper in (flow_paper, tick_paper):
            told = paper(one)
            self.assertIsNot(told[1], one)
            told[1][0][0] = num(9)
            self.assertEqual(one, table((0, 1), (-2, -3)))
            one[1][1] = num(7)
            self.assertEqual(told[1][1], made(-2, -3))
            one[1][1] = num(-3)


class Boxes(TableCase):
    def look(self, box):
        told = self.asked(box_paper, box)
        if not all(dies(p) for p in corners(box)):
            self.assertIsNone(told)
            return False
        self.assertEqual(told, ("box", box, [parts_of(p)[1:] for p in corners(box)]))
        self.assertIs(holds(told), True)
        self.assertIs(JUDGE.says(told), True)
        return True

    def test_boxes(self):
        chance = Chance(327)
        found = []
        for p, numbers in known_polynomials(chance, 80, 7):
            sign = 1 if frac(p[-1]) > 0 else -1
            far = chance.pick([Fraction(0), Fraction(1, 10 ** 9), Fraction(1, 30)])
            if len(p) > 1:
                found.append(self.look(box_of(*[(sign * value - abs(value) * far, sign * value + abs(value) * far)
                                                for value in fracs(p)])))
        self.assertGreater(found.count(True), 10)
        self.assertGreater(found.count(False), 10)

    def test_edges(self):
        self.assertTrue(self.look(box_of(1, 1)))
        self.assertTrue(self.look(box_of((1, 2), (3, 4))))
        self.assertFalse(self.look(box_of((0, 2), (3, 4))))
        self.assertFalse(self.look(box_of((1, 8), 2, 3, 1)))
        eight = product(*[[k, 1] for k in range(1, 8)])
        self.assertTrue(self.look(box_of(*fracs(eight))))
        self.assertTrue(self.look(widened(box_of((5, 7), (10, 12), (6, 7), 1), num(1, 10 ** 299))))

    def test_what_is_no_box_is_refused(self):
        good = box_of((1, 2), (3, 4))
        for thing in (None, True, 0, "", "box", (), [], tuple(good), [list(span) for span in good], good[:1], good * 5,
                      [good], box_of((2, 1), 1), box_of(1, 0), box_of(1, (0, 1)), box_of(1, -1), made(1, 2),
                      [good[0], None], [good[0], ((1, 1), (2, 2))], [good[0], ((True, 1), (1, 1))], [good[0], "12"]):
            self.refused("NoBox", box_paper, thing)

    def test_a_told_paper_is_ones_own(self):
        box = box_of((1, 2), (3, 4))
        told = box_paper(box)
        self.assertEqual(box_said(box)[1], told[2])
        told[1].append("x")
        told[2][0][0].append("x")
        self.assertEqual(box, box_of((1, 2), (3, 4)))
        self.assertIs(holds(box_paper(box)), True)
