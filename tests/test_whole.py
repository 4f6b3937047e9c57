"""Point 2 over the whole program: each name of the interface, and that nothing is changed and nothing is shared."""

import copy
import importlib
import inspect
from fractions import Fraction

from helper import RestCase, box_of, diagonal, lists_in, made, noughts, num, product, same, spoil, table
from restward.desk import Desk

P = made(6, 11, 6, 1)
Q = made(20, 1, 1, 1)
TWICE = product([1, 1], [1, 1], [2, 1])
A = table((0, 1), (-2, -3))
B = table((0, 1), (2, -3))
TURN = table((0, 1), (-1, 0))
HALF = table((Fraction(1, 2), 1), (0, Fraction(1, 3)))
UNIT = diagonal([1, 1])
BOX = box_of((5, 7), (10, 12), (6, 7), 1)
NARROW = box_of(6, 11, 6, 1)
PAPER = ("dies", P, made(Fraction(1, 6), Fraction(3, 5), Fraction(5, 3)), num(6))

# Of each function what it is asked with: ordinary things, and those where a list handed in might be told as it is.
CASES = {
    "numbers.fraction": [(6, -4)], "numbers.plus": [(num(1, 2), num(1, 3))], "numbers.less": [(num(1, 2), num(1, 3))],
    "numbers.times": [(num(1, 2), num(2, 3))], "numbers.over": [(num(1, 2), num(-2, 3))],
    "numbers.sign_of": [(num(-3),)], "numbers.is_below": [(num(1, 3), num(1, 2))],
    "polys.poly": [(P,), (made(1, 0, 0),), ([],)], "polys.poly_sum": [(P, Q), (P, []), ([], P), ([], [])],
    "polys.poly_less": [(P, Q), (P, []), (P, P)], "polys.poly_times": [(P, Q), (P, made(1)), (P, [])],
    "polys.scaled": [(num(2), P), (num(1), P), (num(0), P)], "polys.slope": [(P,), (made(1),)],
    "polys.shifted": [(P, num(1, 2)), (P, num(0)), ([], num(1))], "polys.mirrored": [(P,), (made(1, 0, 1),)],
    "polys.worth": [(P, num(-1, 2))],
    "commons.divided": [(P, Q), (P, made(1)), (made(1), P), ([], P)],
    "commons.common": [(P, Q), (P, P), (P, []), ([], P), ([], []), (TWICE, made(1, 1))],
    "commons.parted": [(TWICE,), (P,), (made(3),)],
    "stretches.sign_row": [(P,), (made(3),)], "stretches.root_count": [(P, None, None), (P, num(-2), num(0))],
    "stretches.stretches_of": [(P,)], "stretches.narrowed": [(P, (num(-5, 2), num(-3, 2)), num(1, 9))],
    "divisions.divisions": [(P,), (made(1, 0, 1),), (made(3),)],
    "divisions.undivided": [([made(0, 1)], made(3)), ([], made(1, 0, 1)), ([made(0, 1), made(0, 1)], made(3))],
    "three.three": [(Q,)], "three.dies": [(P,), (Q,), ([],)],
    "tables.unit": [(1,), (3,)], "tables.table_sum": [(A, B), (A, A), (A, noughts(2))],
    "tables.table_times": [(A, B), (A, A), (A, UNIT)], "tables.turned": [(A,), (UNIT,)],
    "tables.back_of": [(A,), (UNIT,)], "tables.determinant": [(A,)],
    "tables.made_of": [(A, made(1, 2)), (UNIT, made(1, 2))], "tables.worth_at": [(A, made(1, 2))],
    "squares.squares": [(table((1, 2), (2, 1)),), (UNIT,), (noughts(3),)], "squares.signs": [(table((1, 2), (2, 1)),)],
    "squares.hermite": [(P,), (made(0, 0, 1),)],
    "parts.parts_of": [(P,), (Q,), (made(3),)], "parts.from_parts": [(made(1, 2), num(3)), ([], num(3))],
    "minors.steep": [(P,)], "minors.minor": [(A, (0,), (1,))], "minors.leads": [(A,)],
    "between.halves": [(P,), (made(1, 0, 1),), ([],)], "between.points_between": [(P,), (Q,), (made(1, 1),)],
    "flows.table_poly": [(A,)], "flows.poly_table": [(P,), (made(1, 1),)],
    "flows.worth_by": [(P, A), ([], A), (made(0, 1), A), (made(1), A)],
    "flows.flow_form": [(A,), (TURN,), (noughts(4),)], "flows.flow_said": [(A,), (B,), (TURN,), (noughts(4),)],
    "ticks.ticked": [(P,), (made(3),)], "ticks.unticked": [(P, 3), (P, 7), (made(3), 0)], "ticks.circle": [(P,)],
    "steps.steps_of": [(made(1, 2, 5, 9),), (P,), (made(3),)],
    "steps.from_steps": [(made(Fraction(1, 2), 0), num(3)), ([], num(3))],
    "walks.tick_form": [(HALF,), (UNIT,), (A,)], "walks.tick_said": [(HALF,), (UNIT,), (diagonal([2, 3]),)],
    "walks.walk": [(A, made(1, 2), 3), (UNIT, made(1, 2), 4), (A, made(1, 2), 0)],
    "walks.turn_of": [(A,), (noughts(2),)], "walks.turn_back": [(UNIT,), (HALF,)],
    "boxes.is_box": [(BOX,), (P,)], "boxes.within": [(BOX, P)], "boxes.corners": [(BOX,), (NARROW,)],
    "boxes.box_said": [(BOX,), (NARROW,), (box_of((1, 8), 2, 3, 1),)],
    "boxes.widened": [(BOX, num(1, 2)), (BOX, num(0))], "boxes.room_of": [(BOX, num(1, 9)), (box_of(0, 1), num(1))],
    "lines.line_of": [(P, num(1, 9))], "gains.gained": [(P, made(1), num(2)), (P, made(1), num(0))],
    "gains.gains_of": [(P, made(1)), (made(1, 0, 1), made(1)), (made(1, 1, 1, 1), made(2, 1, 1))],
    "looker.holds": [(PAPER,), (PAPER[:3],)],
    "papers.poly_paper": [(P,), (Q,), (made(0, 0, 1),)], "papers.flow_paper": [(A,), (B,), (TURN,), (noughts(3),)],
    "papers.tick_paper": [(HALF,), (UNIT,), (diagonal([2, 3]),)],
    "papers.box_paper": [(BOX,), (NARROW,), (box_of((1, 8), 2, 3, 1),)],
    "texts.show_number": [(num(-1, 2),)], "texts.show_poly": [(P,), ([],)], "texts.show_table": [(A,)],
    "texts.read_number": [("-1/2",)], "texts.read_poly": [("6 11 6 1",), ("-",)], "texts.read_table": [("1 2; 3 4",)],
}


def function_of(name):
    module, function = name.split(".")
    return getattr(importlib.import_module("restward." + module), function)


class Whole(RestCase):
    def test_names_and_arguments(self):
        for name, cases in CASES.items():
            takes = inspect.signature(function_of(name)).parameters.values()
            for arguments in cases:
                self.assertEqual(len(takes), len(arguments), name)
            self.assertEqual(function_of(name).__module__, "restward." + name.split(".")[0])
        self.assertEqual(len(inspect.signature(Desk).parameters), 0)
        self.assertEqual(len(inspect.signature(Desk().say).parameters), 1)

    def test_each_by_itself(self):
        for name, cases in CASES.items():
            for arguments in cases:
                with self.subTest(name):
                    self.asked(function_of(name), *copy.deepcopy(arguments))

    def test_the_same_list_handed_in_twice(self):
        for name in ("polys.poly_sum", "polys.poly_less", "polys.poly_times", "commons.divided", "commons.common"):
            p = copy.deepcopy(P)
            told = function_of(name)(p, p)
            kept = copy.deepcopy(told)
            spoil(p)
            self.assertTrue(same(told, kept), name)
        for name in ("tables.table_sum", "tables.table_times"):
            one = copy.deepcopy(A)
            told = function_of(name)(one, one)
            self.assertTrue(same(told, function_of(name)(A, copy.deepcopy(A))))

    def test_a_row_that_stands_twice_in_what_is_handed_in(self):
        """What is told has no list twice, however often one stands in what was handed in."""
        row = made(1, 2)
        one = [row, row]
        for name in ("tables.turned", "flows.table_poly", "flows.flow_form", "flows.flow_said", "walks.tick_form",
                     "walks.turn_of", "walks.turn_back", "papers.flow_paper", "papers.tick_paper", "minors.leads"):
            told = function_of(name)(one)
            ids = [id(each) for each in lists_in(told)]
            self.assertEqual(len(ids), len(set(ids)), name)
            self.assertNotIn(id(row), ids, name)
        self.assertEqual(one, [made(1, 2), made(1, 2)])

    def test_a_change_in_what_was_told_changes_no_other_answer(self):
        asked = [(function_of(name), arguments) for name, cases in CASES.items() for arguments in cases]
        first = [copy.deepcopy(function(*copy.deepcopy(arguments))) for function, arguments in asked]
        told = [function(*copy.deepcopy(arguments)) for function, arguments in asked]
        for at, thing in enumerate(told):
            spoil(thing)
            for before, (function, arguments) in list(zip(first, asked))[max(0, at - 2):at + 3]:
                self.assertTrue(same(function(*copy.deepcopy(arguments)), before))
        for before, (function, arguments) in zip(first, asked):
            self.assertTrue(same(function(*copy.deepcopy(arguments)), before))

    def test_two_answers_share_no_list(self):
        every = []
        for name, cases in CASES.items():
            for arguments in cases:
                every += [function_of(name)(*arguments), function_of(name)(*arguments), arguments]
        handed = {id(each) for arguments in [part for cases in CASES.values() for part in cases]
                  for each in lists_in(arguments)}
        told = [each for at, thing in enumerate(every) if at % 3 < 2 for each in lists_in(thing)]
        self.assertEqual(len({id(each) for each in told}), len(told))
        self.assertFalse(handed & {id(each) for each in told})

    def test_what_is_refused_changes_nothing(self):
        for refusal, name, arguments in (
                ("NoPolynomial", "commons.divided", (P, [])), ("NoPair", "tables.table_sum", (A, noughts(3))),
                ("NoBack", "tables.back_of", (noughts(2),)), ("NoForm", "squares.squares", (A,)),
                ("NoParts", "parts.from_parts", (made(1, -2), num(1))), ("NoBox", "boxes.widened", (BOX, num(5))),
                ("NoGain", "gains.gained", (made(1), made(1), num(1))), ("NoPair", "walks.walk", (A, made(1), 3)),
                ("NoPolynomial", "papers.poly_paper", (made(3),)), ("NoRow", "divisions.undivided", ([P], P)),
                ("NoSteps", "steps.from_steps", (P, num(1))), ("NoDegree", "ticks.unticked", (P, 2))):
            self.refused(refusal, function_of(name), *arguments)
