"""What the tests share: numbers by Python's own fractions, and a way to ask that looks at what was handed in."""

import copy
import random
import unittest
from fractions import Fraction

import restward.errors as errors

REFUSALS = (
    "NoFraction", "NoPolynomial", "NoStretch", "NoRow", "NoPair", "NoBack", "NoForm", "NoParts", "NoDegree",
    "NoSteps", "NoBox", "NoGain", "NoText", "NoLine", "NoName", "NoDeed",
)


def num(top, bottom=1):
    """The number that top is over bottom, by Python's own fractions."""
    value = Fraction(top, bottom)
    return (value.numerator, value.denominator)


def frac(number):
    return Fraction(number[0], number[1])


def made(*values):
    """The list of numbers of these whole numbers and fractions."""
    return [num(value) for value in values]


def strip(values):
    values = list(values)
    while values and values[-1] == 0:
        values.pop()
    return values


def fracs(p):
    return [frac(number) for number in p]


def times_fracs(one, other):
    if not one or not other:
        return []
    result = [Fraction(0)] * (len(one) + len(other) - 1)
    for i, a in enumerate(one):
        for j, b in enumerate(other):
            result[i + j] += a * b
    return result


def sum_fracs(one, other):
    many = max(len(one), len(other))
    one = list(one) + [Fraction(0)] * (many - len(one))
    other = list(other) + [Fraction(0)] * (many - len(other))
    return strip([a + b for a, b in zip(one, other)])


def product(*factors):
    """The polynomial that these lists of whole numbers and fractions, multiplied, make."""
    result = [Fraction(1)]
    for factor in factors:
        result = times_fracs(result, [Fraction(value) for value in factor])
    return made(*strip(result))


def worth_frac(p, x):
    total = Fraction(0)
    for value in reversed(fracs(p)):
        total = total * x + value
    return total


def lists_in(thing):
    """Each list within a thing, as often as it stands there."""
    found = [thing] if isinstance(thing, list) else []
    if isinstance(thing, (list, tuple)):
        for part in thing:
            found.extend(lists_in(part))
    return found


def spoil(thing):
    for each in lists_in(thing):
        each.append("spoiled")
        each.reverse()


class Chance:
    """Numbers that are the same at each run."""

    def __init__(self, seed):
        self.source = random.Random(seed)

    def whole(self, low, high):
        return self.source.randint(low, high)

    def fraction(self, figures, bottoms=True):
        top = self.source.randint(-(10 ** figures) + 1, 10 ** figures - 1)
        return Fraction(top, self.source.randint(1, 10 ** figures - 1) if bottoms else 1)

    def values(self, many, figures, bottoms=True):
        return [self.fraction(figures, bottoms) for _ in range(many)]

    def polynomial(self, degree, figures, bottoms=True):
        values = self.values(degree + 1, figures, bottoms)
        while values[-1] == 0:
            values[-1] = self.fraction(figures, bottoms)
        return made(*values)

    def pick(self, things):
        return self.source.choice(things)

    def mixed(self, things):
        things = list(things)
        self.source.shuffle(things)
        return things


class RestCase(unittest.TestCase):
    def asked(self, function, *arguments):
        """What a function tells, once point 2 was looked at: nothing is changed, nothing is shared."""
        before = copy.deepcopy(arguments)
        told = function(*arguments)
        self.assertTrue(same(before, arguments), "what was handed in was changed")
        ids = [id(each) for each in lists_in(told)]
        self.assertEqual(len(ids), len(set(ids)), "a list stands twice in what was told")
        handed = [id(each) for each in lists_in(arguments)]
        self.assertFalse(set(ids) & set(handed), "what was told is what was handed in")
        kept = copy.deepcopy(told)
        again = function(*arguments)
        self.assertTrue(same(kept, again), "the same question was answered otherwise")
        spoil(told)
        self.assertTrue(same(kept, again), "two answers share a list")
        self.assertTrue(same(before, arguments), "a change in what was told changed what was handed in")
        self.assertTrue(same(kept, function(*arguments)), "a change in what was told changed a later answer")
        handed_copy = copy.deepcopy(arguments)
        late = function(*handed_copy)
        spoil(handed_copy)
        self.assertTrue(same(kept, late), "a change in what was handed in changed what was told")
        return kept

    def refused(self, name, function, *arguments):
        """That a function makes just this refusal, and changes nothing."""
        before = copy.deepcopy(arguments)
        with self.assertRaises(errors.RestError) as caught:
            function(*arguments)
        self.assertIs(type(caught.exception), getattr(errors, name))
        self.assertTrue(same(before, arguments), "what was handed in was changed")

    def assertNumber(self, thing):
        self.assertIs(type(thing), tuple)
        self.assertEqual(len(thing), 2)
        self.assertIs(type(thing[0]), int)
        self.assertIs(type(thing[1]), int)
        self.assertGreaterEqual(thing[1], 1)
        self.assertTrue(num(thing[0], thing[1]) == thing, "not in lowest terms")

    def assertPolynomial(self, thing):
        self.assertIs(type(thing), list)
        for number in thing:
            self.assertNumber(number)
        if thing:
            self.assertNotEqual(thing[-1][0], 0)


def same(one, other):
    """Whether two things are equal, their kinds too (True isn't 1, a list isn't a tuple)."""
    if type(one) is not type(other):
        return False
    if isinstance(one, (list, tuple)):
        return len(one) == len(other) and all(same(a, b) for a, b in zip(one, other))
    return one == other
