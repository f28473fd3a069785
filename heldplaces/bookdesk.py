"""A book while a book code is played on it, and what the lines do. Each step tells whether the play is not beyond.

Rows are told by their places alone.
"""

from heldplaces.booklines import FIELDS
from heldplaces.codelines import step_on
from heldplaces.pagedesk import compare


class BookDesk:
    """A book at a moment of a play; fields is a tuple, seals are the lengths that are sealed, by place."""

    def __init__(self, size, keep, fields, seals):
        self.names = {"size": size, "keep": keep, "a": 0, "b": 0, "c": 0}
        self.names.update(dict(zip(FIELDS, fields)))
        self.size = size
        self.seals = dict(seals)
        self.written = []
        self.back = []
        self.again = []
        self.is_changed = False


def told_fields_of(desk):
    """The fields (next, many, more, own, mark) at the moment."""
    return tuple([desk.names[name] for name in FIELDS])


def is_place(desk, number):
    """Whether a number is a place."""
    return 0 <= number < desk.size


def term_value(desk, term):
    """What a term is at the moment."""
    return term if isinstance(term, int) else desk.names[term]


def sum_value(desk, terms):
    """What a sum is at the moment."""
    return sum([sign * term_value(desk, term) for sign, term in terms])


def test_holds(desk, parts):
    """Whether a test holds."""
    return all([compare(term_value(desk, left), sign, term_value(desk, right)) == wanted
                for wanted, sign, left, right in parts])


def set_name(desk, name, number):
    """Sets a register, or a field to a number from 0 to size."""
    if name in FIELDS:
        if not 0 <= number <= desk.size:
            return False
        desk.is_changed = True
    desk.names[name] = number
    return True


def play_set(desk, form):
    """R = SUM"""
    return set_name(desk, form[1], sum_value(desk, form[2]))


def play_wrap(desk, form):
    """R = wrap SUM"""
    total = sum_value(desk, form[2])
    for number in (total, total - desk.size, total + desk.size):
        if is_place(desk, number):
            return set_name(desk, form[1], number)
    return False


def play_sealed(desk, form):
    """R = sealed PLACE"""
    length = desk.seals.get(desk.names[form[2]])
    if length is None:
        return False
    desk.names[form[1]] = length
    return True


def play_write(desk, form):
    """write PLACE"""
    place = desk.names[form[1]]
    if not is_place(desk, place):
        return False
    desk.seals.pop(place, None)
    desk.written.append(place)
    desk.is_changed = True
    return True


def times_of(desk, form):
    """How often a line goes back or on; None where that is beyond."""
    here = desk.names["next"]
    if not is_place(desk, here):
        return None
    if form[1] == "times":
        times = sum_value(desk, form[2])
        return times if 0 <= times <= desk.size else None
    there = desk.names[form[2]]
    if not is_place(desk, there):
        return None
    return (here - there if form[0] == "back" else there - here) % desk.size


def play_back(desk, form):
    """back SUM times, back until PLACE"""
    times = times_of(desk, form)
    if times is None:
        return False
    for _ in range(times):
        desk.names["next"] = (desk.names["next"] - 1) % desk.size
        desk.back.append(desk.names["next"])
    desk.is_changed = True
    return True


def play_again(desk, form):
    """again SUM times, again until PLACE"""
    times = times_of(desk, form)
    if times is None:
        return False
    for _ in range(times):
        desk.again.append(desk.names["next"])
        desk.names["next"] = (desk.names["next"] + 1) % desk.size
    desk.is_changed = True
    return True


STEPS = {
    "set": play_set,
    "wrap": play_wrap,
    "sealed": play_sealed,
    "write": play_write,
    "back": play_back,
    "again": play_again,
}


def play_forms(code, desk):
    """Plays a code: "done", "refused" or "beyond"."""
    line = step_on(code.forms, code.jumps, 1)
    while line <= len(code.forms):
        form = code.forms[line - 1]
        if form[0] in ("no", "quit"):
            return "refused" if form[0] == "no" else "done"
        ahead = line + 1
        if form[0] == "if":
            ahead = ahead if test_holds(desk, form[1]) else code.jumps[line]
        else:
            step = STEPS[form[0]]
            if not step(desk, form):
                return "beyond"
        line = step_on(code.forms, code.jumps, ahead)
    return "done"
