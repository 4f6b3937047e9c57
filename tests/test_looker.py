import copy
import unittest
from fractions import Fraction

from helper import (
    ORDERS, Chance, Judge, RestCase, box_of, chance_table, corner, diagonal, frac, fracs, hermite_of, known_polynomials,
    led, like, made, noughts, num, poly_of_parts, poly_of_steps, product, product_of, same, table, times_fracs, with_back,
)
from restward.between import points_between
from restward.boxes import box_said
from restward.flows import flow_form, flow_said, poly_table
from restward.looker import holds
from restward.parts import parts_of
from restward.squares import hermite, squares
from restward.steps import steps_of
from restward.tables import unit
from restward.walks import tick_form, tick_said

JUDGE = Judge()
WORDS = ("dies", "signs", "between", "falls", "grows", "kept", "tick falls", "tick grows", "tick kept", "steps", "box")
STRANGE = (None, True, False, 0, 1, -1, 7, "", "dies", "0", "1/2", (), [], (0,), [0], (0, 1), (1, 1), (2, 2), (-1, 1),
           (0, 2), (1, 0), (1, -1), (0, -1), (True, 1), (1, True), (False, 1), (0, True), [0, 1], [1, 1], (1, 2, 3),
           ("1", "1"), (None, None), ((0, 1), (0, 1)), [(0, 1)], [(1, 1)], [[(1, 1)]], [(1, 1), (0, 1)], [[]], [()],
           [[(0, 1), (0, 1)], [(0, 1), (0, 1)]], "tick kept", [None], (10 ** 400, 10 ** 400 + 1), [[[[[[[[]]]]]]]])


def positive(chance, figures):
    return abs(chance.fraction(figures)) + Fraction(1, 5)


def small(chance, figures):
    top = chance.whole(0, 10 ** figures - 2)
    return Fraction(chance.pick([1, -1]) * top, 10 ** figures - 1)


def dying(chance, figures, degree):
    parts, last = made(*[positive(chance, figures) for _ in range(degree)]), num(chance.fraction(figures) or 1)
    return ("dies", poly_of_parts(parts, last), parts, last)


def stepping(chance, figures, degree):
    numbers, last = made(*[small(chance, figures) for _ in range(degree)]), num(chance.fraction(figures) or 1)
    return ("steps", poly_of_steps(numbers, last), numbers, last)


def mixed(chance, lead, numbers):
    """The same squares by another T: its columns in another order, each taken so many times."""
    n = len(lead)
    order = chance.mixed(range(n))
    factors = [chance.fraction(1) or Fraction(3, 2) for _ in range(n)]
    rows = [[num(frac(row[at]) * factor) for at, factor in zip(order, factors)] for row in lead]
    return rows, [num(frac(numbers[at]) * factor ** 2) for at, factor in zip(order, factors)]


def signed(chance, p):
    return ("signs", p) + mixed(chance, *squares(hermite(p)))


def interlaced(chance, degree):
    """A polynomial whose halves have known roots by turns, and points between these."""
    falls = [Fraction(0)]
    for _ in range(2 * degree - 1):
        falls.append(falls[-1] - positive(chance, 1))
    roots, points = falls[1::2][:degree - 1], falls[0::2]
    halves = [[Fraction(2)], [Fraction(3)]]
    for at, root in enumerate(roots):
        halves[at % 2] = times_fracs(halves[at % 2], [1, -1 / root])
    values = [Fraction(0)] * (degree + 1)
    for odd, half in enumerate(halves):
        for at, value in enumerate(half):
            values[2 * at + odd] = value
    return ("between", made(*values), made(*points))


def led_paper(chance, tick, one):
    """A paper of a table that was written elsewhere: by other squares, and by another column."""
    ahead = "tick " if tick else ""
    word, form = tick_form(one) if tick else flow_form(one)
    if word == "kept":
        many = chance.fraction(1) or 1
        return (ahead + "kept", one, [[num(many * frac(number)) for number in row] for row in form])
    said = tick_said(one) if tick else flow_said(one)
    if said[0] == "dies":
        return (ahead + "falls", one, form) + mixed(chance, *squares(form))
    many = chance.fraction(1) or 1
    return (ahead + "grows", one, form, [num(many * frac(number)) for number in said[2]])


def boxed(box):
    return ("box", box, box_said(box)[1])


def papers():
    """Papers that are so, of each word, small enough to be looked at by all changes."""
    chance = Chance(301)
    found = [dying(chance, 1, degree) for degree in (0, 1, 3, 7)] + [dying(chance, 12, 2)]
    found += [stepping(chance, 1, degree) for degree in (0, 1, 3, 7)] + [stepping(chance, 12, 2)]
    found += [interlaced(chance, degree) for degree in (1, 2, 3, 7)]
    found += [signed(chance, p) for p in (made(1, 1), made(0, 2), made(6, 11, 6, 1), made(20, 1, 1, 1), made(0, 0, 1),
                                          product([1, 0, 1], [1, 1]), made(-1, 0, 0, 1))]
    tables = [table((-2,)), table((3,)), table((0,)), table((1,)), table((Fraction(1, 2),)), table((0, 1), (-2, -3)),
              table((0, 1), (2, -3)), table((0, 1), (-1, 0)), noughts(2), unit(2), table((0, 1), (0, 0)),
              diagonal([Fraction(1, 2), 2]), diagonal([Fraction(1, 2), 3]),
              like(diagonal([-1, -2, -3]), with_back(chance, 3, 1, False)), poly_table(product(*[[1, 2]] * 4))]
    found += [led_paper(chance, tick, one) for one in tables for tick in (False, True)]
    found += [boxed(box) for box in (box_of(1, 1), box_of((1, 2), (3, 4)), box_of((5, 7), (10, 12), (6, 7), 1))]
    return found


def ways(thing, way=()):
    """The way to each thing within a thing, itself among them."""
    yield way
    if isinstance(thing, (list, tuple)):
        for at, part in enumerate(thing):
            yield from ways(part, way + (at,))


def at_way(thing, way):
    for at in way:
        thing = thing[at]
    return thing


def put(thing, way, value):
    """A thing with another one in the place that a way leads to."""
    if not way:
        return copy.deepcopy(value)
    parts = [put(part, way[1:], value) if at == way[0] else copy.deepcopy(part) for at, part in enumerate(thing)]
    return tuple(parts) if isinstance(thing, tuple) else parts


def otherwise(part):
    """Other things in the place of this one, of its kind or of the contrary one."""
    if isinstance(part, int):
        return [part + 1, part - 1, -part, part * 2, part == 1, str(part), [part], (part,), None]
    if isinstance(part, str):
        return [part + "s", part[1:], "tick " + part, part.upper(), [part]] + [word for word in WORDS if word != part]
    found = [tuple(part) if isinstance(part, list) else list(part), part[:-1], part[1:], part[::-1], part + part[-1:]]
    if JUDGE.number(part):
        value = frac(part)
        found += [num(-value), num(value + 1), num(value * 2), num(0), num(1), num(value + Fraction(1, 10 ** 30)),
                  (2 * part[0], 2 * part[1]), (-part[0], -part[1])]
    return found


class Papers(RestCase):
    def look(self, paper, expected=None):
        told = self.asked(holds, paper)
        self.assertIs(type(told), bool)
        self.assertIs(told, JUDGE.says(paper), paper)
        if expected is not None:
            self.assertIs(told, expected, paper)
        return told

    def test_papers_that_are_so(self):
        words = []
        for paper in papers():
            self.look(paper, True)
            words.append(paper[0])
        self.assertEqual(set(words), set(WORDS))

    def test_each_part_put_otherwise(self):
        """Any number, row, table or word otherwise, left out, put in or of another kind."""
        refused = 0
        for paper in papers():
            for way in ways(paper):
                for thing in otherwise(at_way(paper, way)):
                    changed = put(paper, way, thing)
                    told = holds(changed)
                    self.assertIs(told, JUDGE.says(changed), changed)
                    refused += not told
        self.assertGreater(refused, 10000)

    def test_strange_things_at_every_place(self):
        for paper in papers():
            for way in ways(paper):
                for thing in STRANGE:
                    changed = put(paper, way, thing)
                    self.assertIs(holds(changed), JUDGE.says(changed), changed)

    def test_things_that_are_no_papers(self):
        for thing in STRANGE + (tuple([None] * 600), [("dies",)], ("dies",), ("box", []), (("dies",),), WORDS, list(WORDS)):
            self.look(thing, False)
        for word in WORDS + ("falls ", " falls", "tick", "tick ", "tick dies", "tick  falls", "Falls", "not", "parts", ""):
            for many in range(7):
                for thing in ([], (), None, 0, "", [num(1)], [made(1)], num(1)):
                    self.look((word,) + (thing,) * many)

    def test_what_is_handed_in_stays(self):
        for paper in papers():
            before = copy.deepcopy(paper)
            self.assertIs(holds(paper), True)
            self.assertTrue(same(before, paper))


class Bounds(RestCase):
    def look(self, paper, expected):
        self.assertIs(self.asked(holds, paper), expected)

    def test_degrees(self):
        chance = Chance(302)
        for degree in range(8):
            self.look(dying(chance, 1, degree), True)
            self.look(stepping(chance, 1, degree), True)
        for degree in (8, 9, 14):
            self.look(dying(chance, 1, degree), False)
            self.look(stepping(chance, 1, degree), False)
        for degree in range(1, 8):
            self.look(interlaced(chance, degree), True)
            self.look(signed(chance, chance.polynomial(degree, 1)), True)
        for degree in (8, 9):
            self.look(interlaced(chance, degree), False)
            self.look(signed(chance, chance.polynomial(degree, 1)), False)

    def test_degree_0_and_nought(self):
        self.look(("dies", made(5), [], num(5)), True)
        self.look(("steps", made(5), [], num(5)), True)
        self.look(("dies", [], [], num(0)), False)
        self.look(("steps", [], [], num(0)), False)
        self.look(("dies", made(5), [], num(4)), False)
        for p in ([], made(5)):
            self.look(("signs", p, [], []), False)
            self.look(("signs", p, [[]], []), False)
            self.look(("between", p, []), False)
            self.look(("between", p, made(0)), False)

    def test_rows(self):
        chance = Chance(303)
        for n in range(1, 6):
            one = diagonal([Fraction(-1, 2)] * n)
            form, tick = unit(n), diagonal([Fraction(4, 3)] * n)
            by = with_back(chance, n, 1)
            self.look(("falls", one, form, unit(n), made(*[1] * n)), n <= 4)
            self.look(("tick falls", one, tick, unit(n), made(*[Fraction(4, 3)] * n)), n <= 4)
            grown = diagonal([Fraction(1, 2)] * n)
            self.look(("grows", grown, diagonal([-1] * n), made(*[1] * n)), n <= 4)
            self.look(("tick grows", diagonal([2] * n), diagonal([Fraction(-1, 3)] * n), made(*[1] * n)), n <= 4)
            self.look(("kept", noughts(n), led(unit(n), by)), n <= 4)
            self.look(("tick kept", unit(n), led(unit(n), by)), n <= 4)
        for word in ("kept", "tick kept"):
            self.look((word, [], []), False)

    def test_many_figures(self):
        chance = Chance(304)
        self.look(dying(chance, 500, 7), True)
        self.look(stepping(chance, 500, 4), True)
        self.look(signed(chance, chance.polynomial(7, 300)), True)
        self.look(led_paper(chance, False, chance_table(chance, 3, 120)), True)
        self.look(led_paper(chance, True, chance_table(chance, 3, 120)), True)
        self.look(dying(chance, 2000, 2), True)
        paper = list(dying(chance, 2000, 2))
        paper[1][0] = num(frac(paper[1][0]) + Fraction(1, 10 ** 1999))
        self.look(tuple(paper), False)

    def test_boxes_of_all_lengths(self):
        for many in range(2, 9):
            p = product(*[[k, 1] for k in range(1, many)])
            box = box_of(*[(value * Fraction(99999, 100000), value * Fraction(100001, 100000)) for value in fracs(p)])
            self.look(boxed(box), True)
        chance = Chance(305)
        rows = [dying(chance, 1, 8)[2:] for _ in range(4)]
        self.look(("box", box_of(*[1] * 9), rows), False)


class Words(RestCase):
    """Of single words what the changes above may not come by."""

    def look(self, paper, expected):
        self.assertIs(JUDGE.says(paper), expected)
        self.assertIs(self.asked(holds, paper), expected)

    def test_squares_with_a_determinant_of_0(self):
        p = made(0, 0, 1)
        self.assertEqual(hermite(p), noughts(2))
        self.look(("signs", p, unit(2), made(0, 0)), True)
        self.look(("signs", p, table((1, 2), (3, 4)), made(0, 0)), True)
        self.look(("signs", p, table((1, 2), (2, 4)), made(0, 0)), False)
        self.look(("signs", p, noughts(2), made(0, 0)), False)
        # One number other than 0, the other column noughts, or a multiple of the first.
        p = product([1, 1], [0, 1])
        lead, numbers = squares(hermite(p))
        self.assertEqual(sorted(number[0] == 0 for number in numbers), [False, True])
        at = [number[0] == 0 for number in numbers].index(True)
        self.look(("signs", p, lead, numbers), True)
        self.look(("signs", p, [[num(0) if j == at else row[j] for j in range(2)] for row in lead], numbers), False)
        self.look(("signs", p, [[row[at]] * 2 for row in lead], made(0, 0)), False)

    def test_squares_of_forms_that_fall(self):
        one, form = diagonal([Fraction(-1, 2)] * 2), unit(2)
        self.look(("falls", one, form, unit(2), made(1, 1)), True)
        self.look(("falls", one, form, noughts(2), made(0, 0)), False)
        self.look(("falls", one, form, table((1, 0), (0, 0)), made(1, 0)), False)
        self.look(("falls", one, form, table((3, -4), (4, 3)), made(25, 25)), True)
        self.look(("falls", one, form, table((3, -4), (4, 3)), made(25, 24)), False)
        self.look(("falls", one, form, table((1, 1), (0, 1)), made(1, 2)), False)

    def test_a_form_that_falls_but_isnt_above_0(self):
        one = diagonal([Fraction(1, 2), Fraction(-1, 2)])
        form = diagonal([-1, 1])
        self.assertFalse(holds(("falls", one, form, unit(2), made(-1, 1))))
        # These two are opposite, and so another form does as well.
        self.look(("grows", one, form, made(1, 0)), True)
        self.look(("grows", one, form, made(0, 1)), False)
        self.look(("grows", one, form, made(1, 1)), False)
        self.look(("grows", one, form, made(0, 0)), False)
        self.look(("grows", one, table((-1, 5), (5, 1)), made(1, 0)), True)
        self.look(("kept", one, table((0, 5), (5, 0))), True)
        self.look(("kept", one, table((0, 5), (4, 0))), False)

    def test_no_form(self):
        # What is not the same when it is turned is let by nowhere.
        one = table((0, 1), (-1, 0))
        for form in (table((0, 1), (-1, 0)), table((1, 1), (-1, 1))):
            self.look(("kept", one, form), False)
            self.look(("tick kept", one, form), False)
        self.look(("kept", one, unit(2)), True)
        self.look(("tick kept", one, unit(2)), True)

    def test_a_form_of_noughts(self):
        for n in range(1, 5):
            for one in (noughts(n), unit(n), chance_table(Chance(306), n, 1)):
                self.look(("kept", one, noughts(n)), False)
                self.look(("tick kept", one, noughts(n)), False)

    def test_rows_of_a_box(self):
        word, box, rows = boxed(box_of((5, 7), (10, 12), (6, 7), (1, 2)))
        self.look((word, box, rows), True)
        for one in range(4):
            for other in range(4):
                if one != other:
                    changed = list(rows)
                    changed[one], changed[other] = rows[other], rows[one]
                    self.look((word, box, changed), False)
        self.look((word, box, rows[:3]), False)
        self.look((word, box, rows + rows[:1]), False)
        self.look((word, box, tuple(rows)), False)
        self.look((word, box, [list(row) for row in rows]), False)
        self.look((word, box, [parts_of(corner(box, order)) for order in ORDERS]), False)
        self.look((word, box_of(6, 11, 6, 1), [parts_of(made(6, 11, 6, 1))[1:]] * 4), True)
        self.look((word, box, []), False)
        self.look((word, box, [rows[0]] * 100), False)

    def test_a_box_whose_polynomials_dont_all_die(self):
        box = box_of((1, 8), 2, 3, 1)
        rows = [parts_of(corner(box, order))[1:] for order in ORDERS[:3]]
        for last in rows + [([], num(8)), (made(1, 1, 1), num(8)), (made(Fraction(1, 3), -1, 1), num(8))]:
            self.look(("box", box, rows + [last]), False)

    def test_points(self):
        p = made(6, 11, 6, 1)
        # 6 + 6 y and 11 + y: roots -1 and -11.
        self.look(("between", p, made(0, -2, -12)), True)
        self.look(("between", p, made(0, Fraction(-21, 2), -12)), True)
        self.look(("between", p, made(0, -1, -12)), False)
        self.look(("between", p, made(0, -2, -11)), False)
        self.look(("between", p, made(0, -2, -10)), False)
        self.look(("between", p, made(0, -12, -13)), False)
        self.look(("between", p, made(0, -12, -2)), False)
        self.look(("between", p, made(-2, -12, 0)), False)
        self.look(("between", p, made(1, -2, -12)), False)
        self.look(("between", p, made(0, -2)), False)
        self.look(("between", p, made(0, -2, -12, -13)), False)
        self.look(("between", made(-6, -11, -6, -1), made(0, -2, -12)), True)
        self.look(("between", made(-6, 11, -6, 1), made(0, -2, -12)), False)
        self.look(("between", made(1, 1), made(0)), True)
        self.look(("between", made(1, -1), made(0)), False)
        self.look(("between", made(0, 1), made(0)), False)
        self.look(("between", made(1, 0, 1), made(0, -2)), False)
        self.look(("between", made(0, 1, 0, 1), made(0, -2, -3)), False)

    def test_steps_at_the_edges(self):
        self.look(("steps", made(1, 1), made(1), num(1)), False)
        self.look(("steps", made(-1, 1), made(-1), num(1)), False)
        self.look(("steps", made(0, 0, 1), made(0, 0), num(1)), True)

    def test_parts_not_above_0(self):
        for parts in (made(-1, 1), made(1, -1), made(0, 1), made(1, 0), made(-1, -1)):
            self.look(("dies", poly_of_parts(parts, num(1)), parts, num(1)), False)

    def test_whoever_wrote_it(self):
        chance = Chance(307)
        for p, numbers in known_polynomials(chance, 40, 7):
            if len(p) > 1:
                self.look(signed(chance, p), True)
                told = parts_of(p)
                if told[0] == "parts":
                    self.look(("dies", p) + told[1:], True)
                    self.look(("between", p, points_between(p)[1]), True)
                told = steps_of(p)
                if told[0] == "steps":
                    self.look(("steps", p) + told[1:], True)
        for n in range(1, 5):
            for _ in range(6):
                one = [made(*[chance.pick([0, 1, -1, Fraction(1, 3)]) for _ in range(n)]) for _ in range(n)]
                for tick in (False, True):
                    self.look(led_paper(chance, tick, one), True)


class TheJudge(unittest.TestCase):
    def test_hermite(self):
        chance = Chance(308)
        for degree in range(1, 8):
            p = chance.polynomial(degree, 1)
            self.assertEqual(hermite_of(p), hermite(p))

    def test_products(self):
        one = table((1, 2), (3, 4))
        self.assertEqual(JUDGE.change(True, one, unit(2)), [[num(frac(a) - (i == j)) for j, a in enumerate(row)]
                         for i, row in enumerate(product_of([list(column) for column in zip(*one)], one))])
