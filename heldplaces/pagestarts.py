"""How ways through a page code begin: which other records there are, and what a right page keeps to.

Of the number of records only little matters: each has a slot and a room of one unit at least. So a page with
other records has one of them, or one below and one above own; how many slots are held matters to put alone, and is
told there when a way asks for it.
"""

from heldplaces.pagenames import (
    ABOVE, ASKED, AT, BELOW, LESS, LOW, NUMBER, ROOM, SIZE, SLOTS, SPARE, number_row, one_row, unit_row)
from heldplaces.wholerows import added, minus, with_more


class Way:
    """A way through a page code up to a line, for all page cases for which its rows hold.

    Forms are rows for what names stand for, None for what there is not; marks are what is told otherwise.
    """

    def __init__(self, line, equals, rows, forms, marks, stretches):
        self.line = line
        self.equals = equals
        self.rows = rows
        self.forms = forms
        self.marks = marks
        self.stretches = stretches


def branch(way, rows=(), equals=()):
    """A way like this one, for fewer cases."""
    return Way(way.line, way.equals + tuple(equals), way.rows + tuple(rows),
               dict(way.forms), dict(way.marks), way.stretches)


def page_rows(rules):
    """What sizes in use and right pages keep to, whatever records there are."""
    size, low = unit_row(rules.unit, SIZE), unit_row(rules.unit, LOW)
    rows = [
        one_row(SIZE, 1, -1),
        with_more(size, -rules.head),
        added(with_more(low, -rules.head), one_row(SLOTS), -rules.slot),
    ]
    if rules.most is not None:
        rows.append(minus(number_row(rules.most + 1), size))
        rows.append(minus(number_row(rules.most), low))
    return rows


def length_rows(unit, room, less):
    """What a length keeps to: a room of one unit or more, and less than a unit missing."""
    rows = [one_row(room, 1, -1)]
    if unit > 1:
        rows = rows + [one_row(less), one_row(less, -1, unit - 1)]
    return rows


def start_forms(rules, rooms):
    """What the names stand for at the beginning, where the names of rooms are told."""
    unit = rules.unit
    taken = unit_row(unit, LOW, *rooms)
    forms = {
        "a": number_row(0),
        "b": number_row(0),
        "c": number_row(0),
        "size": unit_row(unit, SIZE),
        "low": unit_row(unit, LOW),
        "holes": minus(unit_row(unit, SIZE), taken),
        "len": None,
        "own.at": None,
        "own.len": None,
        "room": None,
        "number": None,
        "laid": None,
    }
    return forms


def start_marks(others):
    """What is told of a way at its beginning; others tells which other records there are."""
    return {
        "others": others,
        "taken": None,
        "empties": None,
        "is_numbered": False,
        "is_changed": False,
        "is_packed": False,
        "delta": 0,
        "divisions": 0,
    }


def starts_alone(rules):
    """The beginnings without an own: no records, or some."""
    low, size = one_row(LOW), one_row(SIZE)
    none = page_rows(rules) + [one_row(SLOTS), minus(size, low)]
    some = page_rows(rules) + [
        one_row(SLOTS, 1, -1), one_row(BELOW, 1, -1), minus(minus(size, low), one_row(BELOW))]
    whole = (unit_row(rules.unit, LOW), unit_row(rules.unit, SIZE))
    return [
        Way(1, (), tuple(none), start_forms(rules, ()), start_marks((False, False)), ()),
        Way(1, (), tuple(some), start_forms(rules, (BELOW,)), start_marks((True, False)), (whole,)),
    ]


def start_around(rules, below, above):
    """The beginning with own, and with other records below and above it or not."""
    unit = rules.unit
    rooms = (ROOM,) + ((BELOW,) if below else ()) + ((ABOVE,) if above else ())
    ahead = minus(one_row(AT), one_row(LOW))
    beyond = minus(minus(one_row(SIZE), one_row(AT)), one_row(ROOM))
    rows = page_rows(rules) + length_rows(unit, ROOM, SPARE) + [one_row(SLOTS, 1, -len(rooms))]
    stretches = []
    if below:
        ahead = minus(ahead, one_row(BELOW))
        rows.append(one_row(BELOW, 1, -1))
        stretches.append((unit_row(unit, LOW), unit_row(unit, AT)))
    if above:
        beyond = minus(beyond, one_row(ABOVE))
        rows.append(one_row(ABOVE, 1, -1))
        stretches.append((unit_row(unit, AT, ROOM), unit_row(unit, SIZE)))
    forms = start_forms(rules, rooms)
    forms["own.at"] = unit_row(unit, AT)
    forms["room"] = unit_row(unit, ROOM)
    forms["own.len"] = forms["room"] if unit == 1 else minus(forms["room"], one_row(SPARE))
    forms["number"] = one_row(NUMBER)
    return Way(1, (), tuple(rows + [ahead, beyond]), forms, start_marks((below, above)), tuple(stretches))


def with_length(rules, way):
    """A beginning with a handed length."""
    forms = dict(way.forms)
    room = unit_row(rules.unit, ASKED)
    forms["len"] = room if rules.unit == 1 else minus(room, one_row(LESS))
    rows = way.rows + tuple(length_rows(rules.unit, ASKED, LESS))
    return Way(1, way.equals, rows, forms, way.marks, way.stretches)


def start_ways(code):
    """All beginnings of ways through a code."""
    rules = code.rules
    if code.kind in ("put", "pack"):
        ways = starts_alone(rules)
    else:
        ways = [start_around(rules, below, above) for below in (False, True) for above in (False, True)]
    if code.kind in ("put", "set"):
        ways = [with_length(rules, way) for way in ways]
    return ways


def number_rows(way, kind):
    """What the number of own's slot keeps to: of a slot that was taken, and of one that was handed."""
    if way.marks["taken"] == "next" or kind == "put" and not way.marks["others"][0]:
        return []
    rows = [one_row(NUMBER), added(one_row(SLOTS, 1, -1), one_row(NUMBER), -1)]
    if kind == "put":
        rows.append(minus(one_row(BELOW), one_row(NUMBER)))
    return rows
