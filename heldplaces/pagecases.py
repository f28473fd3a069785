"""Page cases from the numbers of which they are made."""

from heldplaces.pagenames import (
    ABOVE, ASKED, AT, BELOW, LESS, LOW, NUMBER, ROOM, SIZE, SLOTS, SPARE, WIDTH, one_row)
from heldplaces.searching import some_value
from heldplaces.wholerows import with_more


def kept_first(row, at):
    """A row with the name at a place in the place of the first one."""
    if at == 0:
        return row
    return (row[at],) + row[1:at] + (row[0],) + row[at + 1:]


def value_at(equals, rows, at, wanted):
    """A value that the name at a place can have, one or the least; None if the rows cannot hold."""
    return some_value([kept_first(row, at) for row in equals], [kept_first(row, at) for row in rows], wanted)


def fixed(name, value):
    """The equality of a name and a value."""
    return with_more(one_row(name), -value)


def solve_break(found, size, slots):
    """Numbers for which a break of this size (in units) and number of slots comes up."""
    values = [0] * WIDTH
    equals = list(found.equals)
    known = ((SIZE, size), (SLOTS, slots))
    for name, value in known:
        values[name] = value
        equals.append(fixed(name, value))
    for name in range(SLOTS + 1, WIDTH):
        value = value_at(equals, found.rows, name, "one")
        values[name] = value
        equals.append(fixed(name, value))
    return values


def form_value(form, values):
    """What a form is, with these numbers."""
    return sum([worth * value for worth, value in zip(form, values)]) + form[-1]


def record_at(at, room, unit):
    """The record of a room that has no byte to spare, both told in units."""
    return (at * unit, room * unit)


def target_unit(found, values, unit):
    """The unit in which some other record has to lie, or None."""
    if found.targets is None or found.marks["is_packed"]:
        return None
    first, second = found.targets
    return max(form_value(first, values), form_value(second, values)) // unit


def start_of(target, first, end, rooms):
    """Where records with so many rooms together begin, between first and end, one of them on the target."""
    if target is None:
        return first
    return max(first, min(target, end - rooms))


def count_records(found, values):
    """How many records a page without own has."""
    if not found.marks["others"][0]:
        return 0
    if found.marks["empties"] is False:
        return values[SLOTS]
    if found.marks["taken"] == "empty" and found.marks["is_numbered"]:
        return max(values[NUMBER], 1)
    return 1


def page_alone(found, values, unit):
    """The page of a case without an own at first."""
    many = count_records(found, values)
    row = [None] * values[SLOTS]
    start = start_of(target_unit(found, values, unit), values[LOW], values[SIZE], values[BELOW])
    skipped = -1
    if found.marks["taken"] == "empty" and found.marks["is_numbered"]:
        skipped = values[NUMBER]
    slot = 0
    for k in range(many):
        if slot == skipped:
            slot = slot + 1
        room = values[BELOW] - many + 1 if k == 0 else 1
        row[slot] = record_at(start, room, unit)
        start = start + room
        slot = slot + 1
    return (values[SIZE] * unit, values[LOW] * unit, tuple(row))


def others_around(found, values, unit):
    """The records below and above own."""
    below, above = found.marks["others"]
    target = target_unit(found, values, unit)
    records = []
    if below:
        start = start_of(target, values[LOW], values[AT], values[BELOW])
        records.append(record_at(start, values[BELOW], unit))
    if above:
        start = start_of(target, values[AT] + values[ROOM], values[SIZE], values[ABOVE])
        records.append(record_at(start, values[ABOVE], unit))
    return records


def page_around(found, values, unit):
    """The page of a case with own, and the number of own's slot."""
    own = values[NUMBER] if found.marks["is_numbered"] else 0
    row = [None] * values[SLOTS]
    row[own] = (values[AT] * unit, values[ROOM] * unit - values[SPARE])
    slots = [slot for slot in range(values[SLOTS]) if slot != own]
    if found.ending is True:
        slots = slots[::-1]
    for slot, record in zip(slots, others_around(found, values, unit)):
        row[slot] = record
    return (values[SIZE] * unit, values[LOW] * unit, tuple(row)), own


def case_of(code, found, size, slots):
    """The page case of a break, for a size in units and a number of slots that it has."""
    unit = code.rules.unit
    values = solve_break(found, size, slots)
    length = values[ASKED] * unit - values[LESS]
    if code.kind in ("put", "pack"):
        return (page_alone(found, values, unit), length if code.kind == "put" else None)
    page, own = page_around(found, values, unit)
    return (page, own if code.kind == "strike" else (own, length))
