"""Plays of id codes on numbers."""

from heldplaces.codelines import step_on
from heldplaces.pagedesk import compare


class IdDesk:
    """The names of an id code at a moment of a play; places is None in a give and a free.

    There are all places that are told, and those with a page and a slot below the limits; these were never lent.
    """

    def __init__(self, names, places=None, limits=(0, 0)):
        self.names = dict(names)
        for register_name in ("a", "b", "c"):
            self.names[register_name] = 0
        self.places = places
        self.limits = limits
        self.is_retired = False


def place_told(desk):
    """What is told of the place that page and slot name, or None if there is no such place."""
    page, slot = desk.names["page"], desk.names["slot"]
    told = desk.places.get((page, slot))
    if told is None and 0 <= page < desk.limits[0] and 0 <= slot < desk.limits[1]:
        return (0, False)
    return told


def term_value(desk, term):
    """What a term is at the moment; None for the stamp of no place."""
    if isinstance(term, int):
        return term
    if term == "stamp" and desk.places is not None:
        place = place_told(desk)
        return None if place is None else place[0]
    return desk.names[term]


def sum_value(desk, terms):
    """What a sum is at the moment, or None."""
    total = 0
    for sign, term in terms:
        value = term_value(desk, term)
        if value is None:
            return None
        total = total + sign * value
    return total


def reckoned(total, sign, number):
    """What a sum gives with a sign and a number."""
    if sign == "*":
        return total * number
    if sign == "//":
        return total // number
    return total % number if sign == "mod" else total


def part_holds(desk, part):
    """Whether a part of a test holds; None where it is beyond."""
    wanted, sign, left, right = part
    if sign == "lent":
        place = place_told(desk)
        return (place is not None and place[1]) == wanted
    first, second = term_value(desk, left), term_value(desk, right)
    if first is None or second is None:
        return None
    return compare(first, sign, second) == wanted


def test_holds(desk, parts):
    """Whether a test holds; None where the play goes beyond."""
    for part in parts:
        holds = part_holds(desk, part)
        if not holds:
            return holds
    return True


def play_step(desk, form):
    """What a line besides ifs and ends does. False if it is beyond."""
    if form[0] == "reckon":
        total = sum_value(desk, form[2])
        if total is None:
            return False
        desk.names[form[1]] = reckoned(total, form[3], form[4])
    elif form[0] == "more":
        desk.names["stamp"] = desk.names["stamp"] + form[1]
    elif form[0] == "stamp":
        desk.names["stamp"] = form[1]
    elif form[0] == "rest":
        desk.names["stamp"] = desk.names["stamp"] % form[1]
    else:
        desk.is_retired = True
    return True


def play_id(code, desk):
    """Plays an id code: "done", "accept", "refuse" or "beyond"."""
    line = step_on(code.forms, code.jumps, 1)
    while line <= len(code.forms):
        form = code.forms[line - 1]
        ahead = line + 1
        if form[0] == "quit":
            return "done"
        if form[0] == "refuse":
            return "refuse"
        if form[0] == "accept":
            return "beyond" if place_told(desk) is None else "accept"
        if form[0] == "if":
            side = test_holds(desk, form[1])
            if side is None:
                return "beyond"
            ahead = ahead if side else code.jumps[line]
        elif not play_step(desk, form):
            return "beyond"
        line = step_on(code.forms, code.jumps, ahead)
    return "refuse" if code.kind == "look" else "done"
