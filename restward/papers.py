"""Papers: each answer with what the looker needs to go over it."""

from restward.boxes import box_said
from restward.errors import NoPolynomial
from restward.flows import column_below, flow_form
from restward.parts import parts_of
from restward.squares import hermite, squares
from restward.three import dies
from restward.walks import tick_form


def poly_paper(p):
    """The paper of p: "dies" where it dies, else "signs"."""
    if len(p) < 2:
        raise NoPolynomial("a paper is of a degree from 1 on")
    if dies(p):
        word, parts, last = parts_of(p)
        return ("dies", list(p), parts, last)
    lead, numbers = squares(hermite(p))
    return ("signs", list(p), lead, numbers)


def table_paper(table, told, ahead):
    """The paper of a table by what was told of its form; ahead is what stands ahead of the word."""
    word, form = told
    rows = [list(row) for row in table]
    if word == "kept":
        return (ahead + "kept", rows, form)
    lead, numbers = squares(form)
    column = column_below(lead, numbers)
    if column is None:
        return (ahead + "falls", rows, form, lead, numbers)
    return (ahead + "grows", rows, form, column)


def flow_paper(table):
    """The paper of a table by its flow: "falls", "grows" or "kept"."""
    return table_paper(table, flow_form(table), "")


def tick_paper(table):
    """The paper of a table by ticks: "tick falls", "tick grows" or "tick kept"."""
    return table_paper(table, tick_form(table), "tick ")


def box_paper(box):
    """The paper of a box, "box" where all die, else None."""
    said = box_said(box)
    return ("box", list(box), said[1]) if said[0] == "all" else None
