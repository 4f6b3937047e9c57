from fractions import Fraction

from helper import ORDERS, Chance, RestCase, box_of, corner, frac, fracs, known_polynomials, made, num, product
from restward.boxes import box_said, corners, is_box, room_of, widened, within
from restward.parts import from_parts, parts_of
from restward.three import dies, three

HAIRS = (num(1), num(1, 1000000), num(3, 7), num(9999999))


def around(p, far):
    """The box around a polynomial with a lead above 0, each number so far from its ends as a part of itself."""
    sign = 1 if frac(p[-1]) > 0 else -1
    return box_of(*[(sign * value - abs(value) * far, sign * value + abs(value) * far) for value in fracs(p)])


def some_within(chance, box):
    """A polynomial within a box: each number at an end, or between."""
    found = []
    for low, high in box:
        part = chance.pick([Fraction(0), Fraction(1), Fraction(chance.whole(1, 9), 10)])
        found.append(num(frac(low) + part * (frac(high) - frac(low))))
    return found


def dying(chance, figures, degree):
    """A polynomial of real roots below 0, with a lead above 0."""
    return product(*[[abs(chance.fraction(figures)) + Fraction(1, 3), 1] for _ in range(degree)])


def boxes():
    chance = Chance(221)
    found = [box_of(1, 1), box_of((0, 1), (1, 2)), box_of((-1, 1), 1), box_of(0, 3), box_of((1, 2), (1, 3)),
             box_of(*[(1, 2)] * 8), box_of(*[0] * 7, 1), box_of(*[0] * 7, (1, 5)), box_of(6, 11, 6, 1),
             box_of((5, 7), (10, 12), (6, 7), 1), box_of((1, 70), 11, 6, 1), box_of((-5, 5), (-5, 5), (1, 2))]
    for degree in range(1, 8):
        for figures in (1, 12):
            for far in (Fraction(0), Fraction(1, 10 ** 12), Fraction(1, 50), Fraction(1, 2)):
                found.append(around(dying(chance, figures, degree), far))
    for p, numbers in known_polynomials(chance, 40, 7):
        if len(p) > 1:
            found.append(around(p, chance.pick([Fraction(0), Fraction(1, 10 ** 6), Fraction(1, 20)])))
    return found


def wrong_things():
    good = box_of((1, 2), (3, 4), (1, 2))
    one = num(1)
    spans = [(one, num(0)), (num(2), num(1, 2)), [one, one], (one,), (one, one, one), (), [], None, True, False, 1, 0,
             "12", "", "1 2", (1, 2), (True, True), (one, None), (None, one), (one, 1), (1, one), ((2, 2), num(3)),
             (one, (4, 2)), ((0, 2), one), ((1, 0), one), ((1, -1), num(2)), ((-1, -1), num(2)), ((True, 1), num(2)),
             (one, (True, 1)), ((1, True), num(2)), (one, [2, 1]), ([1, 1], num(2)), (one, "2"), ("a", "b"),
             ((one, one), (one, one)), (one, (1, 1, 1)), (one, (1,)), [(1, 1), (1, 1)], ((None, 1), one), one]
    found = [None, True, False, 0, 1, -7, "", "box", (), [], [[]], [()], tuple(good), (good,), [good], good[0],
             good[:1], good[1:2], box_of(*[1] * 9), box_of(*[1] * 100), [list(span) for span in good], made(1, 2, 3), [1, 2],
             ["ab", "cd"], [None, None], [True, False], [(1, 2), (3, 4)], [((1, 2), (3, 4))],
             [good, good], [tuple(good)], ("box", good, []), "((1, 1), (1, 1))", [[[[[[[[]]]]]]]], [None] * 8]
    for span in spans:
        for at in range(3):
            found.append(good[:at] + [span] + good[at + 1:])
        found.append([span, good[0]])
    # A last low of 0 or below 0.
    found += [good[:2] + [(num(0), one)], good[:2] + [(num(-1), one)], good[:2] + [(num(0), num(0))],
              good[:2] + [(num(-3), num(-2))], box_of((1, 2), (0, 1)), box_of(*[1] * 7, (Fraction(-1, 10 ** 12), 1))]
    return found


class Boxes(RestCase):
    def test_what_is_a_box(self):
        for box in boxes():
            told = self.asked(is_box, box)
            self.assertIs(told, all(frac(low) <= frac(high) for low, high in box) and box[-1][0][0] > 0)
            self.assertIs(told, True)

    def test_edges(self):
        for many in range(2, 9):
            self.assertIs(is_box(box_of(*[1] * many)), True)
            self.assertIs(is_box(box_of(*[(-1, 0)] * (many - 1), (Fraction(1, 10 ** 12), 1))), True)

    def test_what_is_none(self):
        for thing in wrong_things():
            self.assertIs(self.asked(is_box, thing), False, thing)

    def test_what_is_none_is_refused(self):
        for thing in wrong_things():
            self.refused("NoBox", within, thing, made(1, 2, 3))
            self.refused("NoBox", within, thing, [])
            self.refused("NoBox", corners, thing)
            self.refused("NoBox", box_said, thing)
            self.refused("NoBox", widened, thing, num(0))
            self.refused("NoBox", widened, thing, num(1, 7))
            self.refused("NoBox", room_of, thing, num(1))

    def test_told_boxes_put_otherwise(self):
        box = around(made(*[Fraction(10 ** 299 + 7, 10 ** 299 + 9)] * 3), Fraction(1, 10 ** 290 + 1))
        self.assertIs(is_box(widened(widened(box, num(1, 10 ** 280 + 3)), num(1, 10 ** 270 + 7))), True)
        wide = widened(box, num(1, 10 ** 280 + 3))
        self.assertIs(is_box([(high, low) for low, high in wide]), False)
        self.assertIs(is_box(wide[::-1]), True)
        self.assertIs(is_box(wide + [(wide[0][1], wide[0][0])]), False)
        self.assertIs(is_box([(low[::-1], high[::-1]) for low, high in wide]), False)


class Within(RestCase):
    def look(self, box, p, expected):
        self.assertIs(self.asked(within, box, p), expected)

    def test_within(self):
        chance = Chance(222)
        for box in boxes():
            p = some_within(chance, box)
            self.look(box, p, True)
            at = chance.whole(0, len(box) - 1)
            low, high = fracs(box[at])
            self.look(box, p[:at] + [num(low)] + p[at + 1:], True)
            self.look(box, p[:at] + [num(high)] + p[at + 1:], True)
            self.look(box, p[:at] + [num(high + Fraction(1, 10 ** 12))] + p[at + 1:], False)
            below = low - Fraction(1, 10 ** 12)
            if at < len(box) - 1 or below:
                self.look(box, p[:at] + [num(below)] + p[at + 1:], False)

    def test_more_or_fewer_numbers(self):
        for many in range(2, 9):
            box = box_of(*[(-1, 1)] * (many - 1), (1, 2))
            for other in range(10):
                self.look(box, made(*[1] * other), other == many)

    def test_nought_isnt(self):
        for many in range(2, 9):
            self.look(box_of(*[(-1, 1)] * (many - 1), (1, 2)), [], False)

    def test_degree_8(self):
        self.look(box_of(*[1] * 8), made(*[1] * 9), False)
        self.look(box_of(*[(-9, 9)] * 7, 1), made(*[0] * 8, 1), False)


class Corners(RestCase):
    def look(self, box):
        told = self.asked(corners, box)
        self.assertIs(type(told), list)
        self.assertEqual(told, [corner(box, order) for order in ORDERS])
        for p in told:
            self.assertPolynomial(p)
            self.assertIs(within(box, p), True)
        first = next((p for p in told if three(p)[0] < len(p) - 1), None)
        said = self.asked(box_said, box)
        self.assertIs(type(said), tuple)
        if first is not None:
            self.assertEqual(said, ("not", first) + three(first))
            return False
        self.assertEqual((said[0], len(said)), ("all", 2))
        self.assertIs(type(said[1]), list)
        self.assertEqual([from_parts(*row) for row in said[1]], told)
        self.assertEqual(said[1], [parts_of(p)[1:] for p in told])
        self.assertTrue(all(type(row) is tuple and len(row) == 2 for row in said[1]))
        return True

    def test_boxes(self):
        told = [self.look(box) for box in boxes()]
        self.assertGreater(told.count(True), 20)
        self.assertGreater(told.count(False), 20)

    def test_known(self):
        box = box_of((1, 2), (3, 4), (5, 6), (7, 8), (9, 10), (11, 12), (13, 14), (15, 16))
        self.assertEqual(corners(box), [made(1, 3, 6, 8, 9, 11, 14, 16), made(2, 4, 5, 7, 10, 12, 13, 15),
                                        made(1, 4, 6, 7, 9, 12, 14, 15), made(2, 3, 5, 8, 10, 11, 13, 16)])
        self.assertEqual(box_said(box_of((1, 2), (3, 4))),
                         ("all", [(made(3), num(1)), (made(2), num(2)), (made(4), num(1)),
                                  (made(Fraction(3, 2)), num(2))]))

    def test_no_breadth(self):
        p = made(6, 11, 6, 1)
        box = box_of(6, 11, 6, 1)
        self.assertEqual(self.asked(corners, box), [p] * 4)
        self.assertEqual(self.asked(box_said, box), ("all", [parts_of(p)[1:]] * 4))
        told = corners(box)
        told[0].append("x")
        self.assertEqual(told[1:], [p] * 3)

    def test_which_corner_doesnt_die(self):
        # The first, and others with it; the last alone.
        self.assertEqual(box_said(box_of((0, 1), 1)), ("not", made(0, 1), 0, 1, 0))
        self.assertEqual(box_said(box_of((-2, 1), 1)), ("not", made(-2, 1), 0, 0, 1))
        self.assertEqual(box_said(box_of((1, 8), 2, 3, 1)), ("not", made(8, 2, 3, 1), 1, 0, 2))
        self.assertEqual(box_said(box_of((1, 6), 2, 3, 1)), ("not", made(6, 2, 3, 1), 1, 2, 0))
        self.look(box_of((1, 8), 2, 3, 1))

    def test_each_corner_may_be_the_only_one(self):
        for at, box in enumerate((
                box_of(2, 8, (20, 23), (30, 33), (27, 28), 5, (1, 4)),
                box_of((9, 12), 30, (25, 28), (9, 17), (1, 9)),
                box_of(4, (4, 7), (29, 30), (8, 16), (4, 12), 1),
                box_of((1, 9), (1, 9), 24, (1, 9)))):
            self.assertEqual([dies(corner(box, order)) for order in ORDERS], [place != at for place in range(4)])
            self.assertFalse(self.look(box))
            self.assertEqual(box_said(box)[1], corner(box, ORDERS[at]))

    def test_other_boxes_by_chance(self):
        chance = Chance(223)
        found = {}
        for _ in range(1000):
            box = around(dying(chance, 1, chance.whole(3, 6)), Fraction(chance.whole(1, 40), 100))
            said = tuple(dies(corner(box, order)) for order in ORDERS)
            if said not in found:
                found[said] = self.look(box)
        self.assertGreater(len(found), 4)

    def test_all_within_die_just_where_the_corners_do(self):
        chance = Chance(224)
        for box in boxes():
            if box_said(box)[0] == "all":
                for _ in range(10):
                    self.assertIs(dies(some_within(chance, box)), True)

    def test_three_hundred_figures(self):
        far = Fraction(10 ** 299 + 1, 10 ** 299 - 3)
        p = [value * far for value in fracs(product([1, 1], [2, 1], [3, 1]))]
        self.assertTrue(self.look(around(made(*p), Fraction(1, 10 ** 3))))


class Widened(RestCase):
    def look(self, box, number):
        far = frac(number)
        if frac(box[-1][0]) <= far:
            self.refused("NoBox", widened, box, number)
            return
        told = self.asked(widened, box, number)
        self.assertIs(type(told), list)
        self.assertEqual(told, [(num(frac(low) - far), num(frac(high) + far)) for low, high in box])
        for low, high in told:
            self.assertNumber(low)
            self.assertNumber(high)
        self.assertIs(is_box(told), True)

    def test_widened(self):
        chance = Chance(225)
        for box in boxes():
            last = frac(box[-1][0])
            for number in (Fraction(0), last, last / 2, last - last / 10 ** 9, last + 1, abs(chance.fraction(12))):
                self.look(box, num(number))

    def test_by_0(self):
        box = box_of((1, 2), (0, 0), (3, 4))
        told = self.asked(widened, box, num(0))
        self.assertEqual(told, box)
        self.assertIsNot(told, box)

    def test_known(self):
        self.assertEqual(widened(box_of((1, 2), (3, 4)), num(1, 2)),
                         box_of((Fraction(1, 2), Fraction(5, 2)), (Fraction(5, 2), Fraction(9, 2))))
        self.refused("NoBox", widened, box_of((1, 2), (3, 4)), num(3))


class Rooms(RestCase):
    def look(self, box, hair):
        told = self.asked(room_of, box, hair)
        if not all(dies(corner(box, order)) for order in ORDERS):
            self.assertIsNone(told)
            return None
        self.assertIs(type(told), tuple)
        self.assertEqual(len(told), 2)
        low, high = told
        self.assertNumber(low)
        self.assertNumber(high)
        self.assertGreaterEqual(frac(low), 0)
        self.assertGreater(frac(high) - frac(low), 0)
        self.assertLessEqual(frac(high) - frac(low), frac(hair))
        self.assertTrue(self.all_die(box, frac(low)))
        self.assertFalse(self.all_die(box, frac(high)))
        return frac(low), frac(high)

    def all_die(self, box, far):
        """Whether the box, widened so far, is a box whose polynomials all die."""
        wide = [(num(frac(low) - far), num(frac(high) + far)) for low, high in box]
        return wide[-1][0][0] > 0 and all(three(corner(wide, order))[0] == len(box) - 1 for order in ORDERS)

    def test_boxes(self):
        found = [self.look(box, hair) is None for box in boxes() for hair in HAIRS]
        self.assertGreater(found.count(True), 40)
        self.assertGreater(found.count(False), 40)

    def test_ended_by_the_last_low(self):
        low, high = self.look(box_of((5, 9), (2, 3)), num(1, 1000000))
        self.assertTrue(low < 2 <= high)
        low, high = self.look(box_of(100, 100, 3), num(1, 1000000))
        self.assertTrue(low < 3 <= high)
        # (3 - t)(11 - t) = (6 + t)(1 + t) at t = 9 / 7 alone, and so later.
        low, high = self.look(box_of(6, 11, 3, 1), num(1, 1000000))
        self.assertTrue(low < 1 <= high)

    def test_ended_by_a_corner(self):
        low, high = self.look(box_of((2, 9), (5, 7)), num(1, 1000000))
        self.assertTrue(low < 2 <= high)
        # The first low comes to 0 at t = 1, ahead of (4 - t)(4 - t) = (1 + t)(3 + t) at t = 13 / 12.
        low, high = self.look(box_of(1, 4, 4, 3), num(1, 1000000))
        self.assertTrue(low < 1 <= high)
        # (4 - t)(4 - t) = (10 + t)(1 + t) at t = 6 / 19.
        low, high = self.look(box_of(10, 4, 4, 1), num(1, 1000000))
        self.assertTrue(low < Fraction(6, 19) <= high)
        self.assertLessEqual(high - low, Fraction(1, 1000000))

    def test_a_hair_wider_than_the_room(self):
        low, high = self.look(box_of((2, 9), (5, 7)), num(9999999))
        self.assertTrue(0 <= low < 2 <= high)

    def test_no_room(self):
        for hair in HAIRS:
            self.assertIsNone(room_of(box_of((0, 1), 1), hair))
            self.assertIsNone(room_of(box_of((-1, 1), 1), hair))
            self.assertIsNone(room_of(box_of((1, 8), 2, 3, 1), hair))

    def test_far_and_narrow(self):
        self.look(box_of(10 ** 299, (10 ** 298, 10 ** 299)), num(1, 1000000))
        self.look(box_of(10 ** 60, 10 ** 61, 10 ** 59), num(1, 1000000))
        self.look(box_of(Fraction(1, 10 ** 40), Fraction(1, 10 ** 41), Fraction(3, 10 ** 40)), num(1, 1000000))

    def test_a_box_that_was_widened(self):
        box = box_of((5, 7), (10, 12), (6, 7), 1)
        low, high = self.look(box, num(1, 1000))
        further = self.look(widened(box, num(low)), num(1, 1000000))
        self.assertLess(low + further[0], high)
        self.assertLessEqual(further[1], Fraction(1, 1000))
