"""What the tests share: numbers by Python's own fractions, and a way to ask that looks at what was handed in."""

import copy
import random
import unittest
from fractions import Fraction
from itertools import permutations
from math import gcd

import restward.errors as errors

REFUSALS = (
    "NoFraction", "NoPolynomial", "NoStretch", "NoRow", "NoPair", "NoBack", "NoForm", "NoParts", "NoDegree",
    "NoSteps", "NoBox", "NoGain", "NoText", "NoLine", "NoName", "NoDeed",
)


def num(top, bottom=1):
    """The number that top is over bottom, by Python's own fractions."""
    value = Fraction(top, bottom)
    return (value.numerator, value.denominator)


def frac(number):
    return Fraction(number[0], number[1])


def made(*values):
    """The list of numbers of these whole numbers and fractions."""
    return [num(value) for value in values]


def strip(values):
    values = list(values)
    while values and values[-1] == 0:
        values.pop()
    return values


def fracs(p):
    return [frac(number) for number in p]


def times_fracs(one, other):
    if not one or not other:
        return []
    result = [Fraction(0)] * (len(one) + len(other) - 1)
    for i, a in enumerate(one):
        for j, b in enumerate(other):
            result[i + j] += a * b
    return result


def sum_fracs(one, other):
    many = max(len(one), len(other))
    one = list(one) + [Fraction(0)] * (many - len(one))
    other = list(other) + [Fraction(0)] * (many - len(other))
    return strip([a + b for a, b in zip(one, other)])


def product(*factors):
    """The polynomial that these lists of whole numbers and fractions, multiplied, make."""
    result = [Fraction(1)]
    for factor in factors:
        result = times_fracs(result, [Fraction(value) for value in factor])
    return made(*strip(result))


def worth_frac(p, x):
    total = Fraction(0)
    for value in reversed(fracs(p)):
        total = total * x + value
    return total


def line(root):
    """x less a root, and its three numbers."""
    return [-root, 1], (int(root < 0), int(root == 0), int(root > 0))


def pair(u, v):
    """(x - u)(x - u) + v, v above 0: two roots with the real part u."""
    return [u * u + v, -2 * u, 1], (2 * (u < 0), 2 * (u == 0), 2 * (u > 0))


def upright(v):
    return [v, 0, 1], (0, 2, 0)


def level(v):
    return [-v, 0, 1], (1, 0, 1)


def cross(v):
    return [v, 0, 0, 0, 1], (2, 0, 2)


def factors(chance):
    small = [Fraction(value) for value in (-2, -1, 0, 1, 3)] + [Fraction(-1, 3), Fraction(5, 7)]
    far = [chance.fraction(12) for _ in range(3)]
    above = [Fraction(1), Fraction(2), Fraction(1, 5), abs(chance.fraction(12)) + 1]
    return ([line(root) for root in small + far] + [pair(u, v) for u in small + far for v in above[1:]]
            + [make(v) for make in (upright, level, cross) for v in above])


def chosen_factors(chance, known, highest):
    """Some of these factors, some of them twice, together not above a degree."""
    chosen = []
    room = highest
    while room > 0:
        factor = chance.pick(known)
        often = chance.pick([1, 1, 2])
        room -= (len(factor[0]) - 1) * often
        if room >= 0:
            chosen.extend([factor] * often)
    return chosen


def known_product(lead, chosen):
    """The polynomial of these factors, and its three numbers."""
    p = product([lead], *[factor for factor, numbers in chosen])
    return p, tuple(sum(numbers[at] for factor, numbers in chosen) for at in range(3))


def known_products(chance, known, many, highest):
    """So many polynomials of these factors, each with its numbers: about half of them have all roots at the first."""
    first = [(factor, numbers) for factor, numbers in known if numbers[0] == len(factor) - 1]
    for at in range(many):
        chosen = chosen_factors(chance, first if at % 2 else known, chance.whole(1, highest))
        yield known_product(chance.fraction(12) or 1, chosen)


def known_polynomials(chance, many, highest):
    """So many polynomials of known factors, each with its three numbers."""
    return known_products(chance, factors(chance), many, highest)


def at_root(root):
    """x less a root, and its circle's numbers."""
    return [-root, 1], (int(abs(root) < 1), int(abs(root) == 1), int(abs(root) > 1))


def at_pair(u, v):
    """Two roots of the real part u, v above 0, whose squared length is v and the square of u, added."""
    length = u * u + v
    return [length, -2 * u, 1], (2 * (length < 1), 2 * (length == 1), 2 * (length > 1))


def circle_factors(chance):
    """Factors with their circle's numbers: within, on the circle, beyond, at a and at 1 / a."""
    far = [chance.fraction(12) or Fraction(2) for _ in range(2)]
    roots = [Fraction(value) for value in (0, 1, -1, 3)] + [Fraction(1, 3), Fraction(-2, 5), Fraction(-5, 2)] + far
    roots += [1 / root for root in far]
    pairs = [(Fraction(3, 5), Fraction(16, 25)), (Fraction(0), Fraction(1)), (Fraction(-5, 13), Fraction(144, 169)),
             (Fraction(1, 2), Fraction(1, 7)), (Fraction(-1, 3), Fraction(1, 9)), (Fraction(2), Fraction(1)),
             (Fraction(0), Fraction(9)), (far[0], Fraction(1, 2))]
    return [at_root(root) for root in roots] + [at_pair(u, v) for u, v in pairs]


def chosen_circle(chance, many, highest):
    """So many polynomials of known factors, each with its circle's numbers."""
    return known_products(chance, circle_factors(chance), many, highest)


def table(*rows):
    return [made(*row) for row in rows]


def chance_table(chance, n, figures, bottoms=True):
    return [made(*chance.values(n, figures, bottoms)) for _ in range(n)]


def product_of(one, other):
    n = len(one)
    return [[num(sum(frac(one[i][k]) * frac(other[k][j]) for k in range(n))) for j in range(n)] for i in range(n)]


def sign_of(order):
    return (-1) ** sum(order[i] > order[j] for i in range(len(order)) for j in range(i + 1, len(order)))


def determinant_of(rows):
    """By all orders of the columns."""
    total = Fraction(0)
    for order in permutations(range(len(rows))):
        part = Fraction(sign_of(order))
        for at, place in enumerate(order):
            part *= frac(rows[at][place])
        total += part
    return num(total)


def diagonal(values):
    return [[num(value if i == j else 0) for j in range(len(values))] for i, value in enumerate(values)]


def led(form, by):
    """by turned times the form times by."""
    return product_of(product_of([list(column) for column in zip(*by)], form), by)


def noughts(n):
    return [made(*[0] * n) for _ in range(n)]


def back_by_fracs(one):
    """By plain elimination, the unit beside it."""
    n = len(one)
    rows = [fracs(row) + [Fraction(int(i == j)) for j in range(n)] for i, row in enumerate(one)]
    for at in range(n):
        place = next(k for k in range(at, n) if rows[k][at])
        rows[at], rows[place] = rows[place], rows[at]
        rows[at] = [value / rows[at][at] for value in rows[at]]
        for k in range(n):
            if k != at:
                rows[k] = [a - rows[k][at] * b for a, b in zip(rows[k], rows[at])]
    return [made(*row[n:]) for row in rows]


def like(one, by):
    """The back of by, times the table, times by: with the same roots."""
    return product_of(back_by_fracs(by), product_of(one, by))


def has_back(one):
    """By plain elimination."""
    rows = [fracs(row) for row in one]
    while rows:
        place = next((at for at, row in enumerate(rows) if row[0]), None)
        if place is None:
            return False
        chosen = rows.pop(place)
        rows = [[a - row[0] / chosen[0] * b for a, b in zip(row[1:], chosen[1:])] for row in rows]
    return True


def with_back(chance, n, figures, bottoms=True):
    """A table by chance that has a back."""
    one = chance_table(chance, n, figures, bottoms)
    while not has_back(one):
        one = chance_table(chance, n, figures, bottoms)
    return one


def lists_in(thing):
    """Each list within a thing, as often as it stands there."""
    found = [thing] if isinstance(thing, list) else []
    if isinstance(thing, (list, tuple)):
        for part in thing:
            found.extend(lists_in(part))
    return found


def spoil(thing):
    for each in lists_in(thing):
        each.append("spoiled")
        each.reverse()


def poly_of_parts(parts, last):
    """By Python's own fractions, from the last part on."""
    one, other = [frac(last)], []
    for part in reversed(parts):
        one, other = sum_fracs(times_fracs([Fraction(0), frac(part)], one), other), one
    return made(*sum_fracs(one, other))


def poly_of_steps(numbers, last):
    """By Python's own fractions, step by step."""
    q = [frac(last)]
    for k in fracs(numbers):
        q = sum_fracs([Fraction(0)] + q, [k * value for value in reversed(q)])
    return made(*q)


ORDERS = ("llhh", "hhll", "lhhl", "hllh")


def box_of(*spans):
    """A box of pairs of whole numbers and fractions; one alone stands for both."""
    return [(num(span), num(span)) if not isinstance(span, tuple) else (num(span[0]), num(span[1])) for span in spans]


def corner(box, order):
    return [box[at]["lh".index(order[at % 4])] for at in range(len(box))]


class Judge:
    """What the document says of papers, by Python's own fractions: of any thing whether it is one that is so."""

    def number(self, thing):
        return (type(thing) is tuple and len(thing) == 2 and type(thing[0]) is int and type(thing[1]) is int
                and thing[1] >= 1 and gcd(thing[0], thing[1]) == 1)

    def numbers(self, thing, many):
        return type(thing) is list and len(thing) == many and all(self.number(each) for each in thing)

    def poly(self, thing, lowest):
        return (type(thing) is list and lowest <= len(thing) - 1 <= 7 and self.numbers(thing, len(thing))
                and thing[-1][0] != 0)

    def table(self, thing, n):
        return type(thing) is list and len(thing) == n and all(self.numbers(row, n) for row in thing)

    def squares(self, form, lead, numbers):
        n = len(form)
        return (self.table(lead, n) and self.numbers(numbers, n) and has_back(lead)
                and led(form, lead) == diagonal(fracs(numbers)))

    def parts(self, p, parts, last):
        return (type(parts) is list and self.numbers(parts, len(p) - 1) and self.number(last) and last[0] != 0
                and all(part[0] > 0 for part in parts) and poly_of_parts(parts, last) == p)

    def dies(self, p, parts, last):
        return self.poly(p, 0) and self.parts(p, parts, last)

    def signs(self, p, lead, numbers):
        return self.poly(p, 1) and self.squares(hermite_of(p), lead, numbers)

    def between(self, p, points):
        if not self.poly(p, 1) or not self.numbers(points, len(p) - 1) or points[0] != num(0):
            return False
        even, odd = p[0::2], p[1::2]
        places = fracs(points)
        if worth_frac(even, 0) * worth_frac(odd, 0) <= 0 or sorted(set(places), reverse=True) != places:
            return False
        return all(worth_frac(half, one) * worth_frac(half, other) < 0
                   for half, one, other in zip([even, odd] * 4, places, places[1:]))

    def change(self, tick, one, form):
        """By how much a form changes, along the flow or at a tick."""
        if tick:
            return [[num(frac(a) - frac(b)) for a, b in zip(*rows)] for rows in zip(led(form, one), form)]
        behind = product_of(form, one)
        ahead = product_of([list(column) for column in zip(*one)], form)
        return [[num(frac(a) + frac(b)) for a, b in zip(*rows)] for rows in zip(ahead, behind)]

    def fallen(self, tick, one, form, many):
        if type(one) is not list or not 1 <= len(one) <= 4 or not self.table(one, len(one)):
            return False
        if not self.table(form, len(one)) or [list(column) for column in zip(*form)] != form:
            return False
        return self.change(tick, one, form) == diagonal([many] * len(one))

    def falls(self, tick, one, form, lead, numbers):
        return (self.fallen(tick, one, form, -1) and self.squares(form, lead, numbers)
                and all(number[0] > 0 for number in numbers))

    def grows(self, tick, one, form, x):
        if not self.fallen(tick, one, form, -1) or not self.numbers(x, len(one)):
            return False
        return sum(frac(a) * frac(form[i][j]) * frac(b) for i, a in enumerate(x) for j, b in enumerate(x)) < 0

    def kept(self, tick, one, form):
        return self.fallen(tick, one, form, 0) and form != noughts(len(one))

    def steps(self, p, numbers, last):
        return (self.poly(p, 0) and self.numbers(numbers, len(p) - 1) and self.number(last) and last[0] != 0
                and all(abs(frac(k)) < 1 for k in numbers) and poly_of_steps(numbers, last) == p)

    def is_box(self, thing):
        return (type(thing) is list and 2 <= len(thing) <= 8
                and all(type(span) is tuple and len(span) == 2 and self.number(span[0]) and self.number(span[1])
                        and frac(span[0]) <= frac(span[1]) for span in thing) and thing[-1][0][0] > 0)

    def box(self, box, rows):
        return (self.is_box(box) and type(rows) is list and len(rows) == 4
                and all(type(row) is tuple and len(row) == 2 and self.parts(corner(box, order), *row)
                        for row, order in zip(rows, ORDERS)))

    def says(self, paper):
        if type(paper) is not tuple or not paper or type(paper[0]) is not str:
            return False
        word, parts = paper[0], paper[1:]
        if word in ("dies", "signs", "steps") and len(parts) == 3:
            return getattr(self, word)(*parts)
        if word in ("between", "box") and len(parts) == 2:
            return getattr(self, word)(*parts)
        tick, word = word.startswith("tick "), word[5:] if word.startswith("tick ") else word
        if {"falls": 4, "grows": 3, "kept": 2}.get(word) == len(parts):
            return getattr(self, word)(tick, *parts)
        return False


def hermite_of(p):
    """By what stands beside each power of x and of y, times x + y."""
    n = len(p) - 1
    values = fracs(p)
    rows = [[Fraction(0)] * n for _ in range(n)]
    for i in range(n):
        for j in range(1, n + 1):
            whole = 2 * values[i] * values[j] if (i + j) % 2 else Fraction(0)
            rows[i][j - 1] = whole - (rows[i - 1][j] if i and j < n else 0)
    return table(*rows)


class Chance:
    """Numbers that are the same at each run."""

    def __init__(self, seed):
        self.source = random.Random(seed)

    def whole(self, low, high):
        return self.source.randint(low, high)

    def fraction(self, figures, bottoms=True):
        top = self.source.randint(-(10 ** figures) + 1, 10 ** figures - 1)
        return Fraction(top, self.source.randint(1, 10 ** figures - 1) if bottoms else 1)

    def values(self, many, figures, bottoms=True):
        return [self.fraction(figures, bottoms) for _ in range(many)]

    def polynomial(self, degree, figures, bottoms=True):
        values = self.values(degree + 1, figures, bottoms)
        while values[-1] == 0:
            values[-1] = self.fraction(figures, bottoms)
        return made(*values)

    def pick(self, things):
        return self.source.choice(things)

    def mixed(self, things):
        things = list(things)
        self.source.shuffle(things)
        return things


class RestCase(unittest.TestCase):
    def asked(self, function, *arguments):
        """What a function tells, once point 2 was looked at: nothing is changed, nothing is shared."""
        before = copy.deepcopy(arguments)
        told = function(*arguments)
        self.assertTrue(same(before, arguments), "what was handed in was changed")
        ids = [id(each) for each in lists_in(told)]
        self.assertEqual(len(ids), len(set(ids)), "a list stands twice in what was told")
        handed = [id(each) for each in lists_in(arguments)]
        self.assertFalse(set(ids) & set(handed), "what was told is what was handed in")
        kept = copy.deepcopy(told)
        again = function(*arguments)
        self.assertTrue(same(kept, again), "the same question was answered otherwise")
        spoil(told)
        self.assertTrue(same(kept, again), "two answers share a list")
        self.assertTrue(same(before, arguments), "a change in what was told changed what was handed in")
        self.assertTrue(same(kept, function(*arguments)), "a change in what was told changed a later answer")
        handed_copy = copy.deepcopy(arguments)
        late = function(*handed_copy)
        spoil(handed_copy)
        self.assertTrue(same(kept, late), "a change in what was handed in changed what was told")
        return kept

    def refused(self, name, function, *arguments):
        """That a function makes just this refusal, and changes nothing."""
        before = copy.deepcopy(arguments)
        with self.assertRaises(errors.RestError) as caught:
            function(*arguments)
        self.assertIs(type(caught.exception), getattr(errors, name))
        self.assertTrue(same(before, arguments), "what was handed in was changed")

    def assertNumber(self, thing):
        self.assertIs(type(thing), tuple)
        self.assertEqual(len(thing), 2)
        self.assertIs(type(thing[0]), int)
        self.assertIs(type(thing[1]), int)
        self.assertGreaterEqual(thing[1], 1)
        self.assertTrue(num(thing[0], thing[1]) == thing, "not in lowest terms")

    def assertPolynomial(self, thing):
        self.assertIs(type(thing), list)
        for number in thing:
            self.assertNumber(number)
        if thing:
            self.assertNotEqual(thing[-1][0], 0)


class TableCase(RestCase):
    def assertTable(self, thing, n):
        self.assertIs(type(thing), list)
        self.assertEqual(len(thing), n)
        for row in thing:
            self.assertColumn(row, n)

    def assertColumn(self, thing, n):
        self.assertIs(type(thing), list)
        self.assertEqual(len(thing), n)
        for number in thing:
            self.assertNumber(number)


def same(one, other):
    """Whether two things are equal, their kinds too (True isn't 1, a list isn't a tuple)."""
    if type(one) is not type(other):
        return False
    if isinstance(one, (list, tuple)):
        return len(one) == len(other) and all(same(a, b) for a, b in zip(one, other))
    return one == other
