"""What ways through a page code break, and for which cases."""

from heldplaces.pageforks import edge_row, slots_row
from heldplaces.pagenames import ABOVE, ASKED, BELOW, REST, SIZE, SLOTS, one_row, unit_row
from heldplaces.pagestarts import branch
from heldplaces.wholerows import added, is_constant, minus, times_row, with_more


class Break:
    """The cases of a way for which rows hold, all of which break a promise.

    Targets are two forms: some other record has to lie on the greater byte of the two. Ending tells whether the
    last slot is one with another record (True), an empty one (False), or either.
    """

    def __init__(self, way, targets, ending):
        self.equals = way.equals
        self.rows = way.rows
        self.forms = dict(way.forms)
        self.marks = dict(way.marks)
        self.targets = targets
        self.ending = ending


class Findings:
    """What was found on all ways of a code: breaks for each promise, and the ways that are done with own."""

    def __init__(self):
        self.breaks = {"inside": [], "whole": [], "owed": [], "lawful": [], "books": [], "full": []}
        self.dones = []


def note_break(findings, promise, way, rows=(), targets=None, ending=None):
    """Notes the cases of a way for which rows hold, unless a row surely fails."""
    for row in rows:
        if is_constant(row) and row[-1] < 0:
            return
    some = [row for row in rows if not is_constant(row)]
    findings.breaks[promise].append(Break(branch(way, some), targets, ending))


def note_unlike(findings, promise, way, row, ending=None):
    """Notes the cases of a way for which a row is not 0."""
    note_break(findings, promise, way, [with_more(row, -1)], None, ending)
    note_break(findings, promise, way, [with_more(times_row(row, -1), -1)], None, ending)


def met_rows(start, end, stretch):
    """The rows for which the bytes from start to end meet a stretch in which other records lie."""
    return [with_more(minus(stretch[1], start), -1), with_more(minus(end, stretch[0]), -1)]


def note_lay(findings, way, rules, start):
    """Notes what is spoilt by the bytes that are laid from a start on."""
    note_break(findings, "whole", way, [with_more(minus(edge_row(way, rules), start), -1)])
    end = added(start, way.forms["len"])
    for stretch in way.stretches:
        note_break(findings, "whole", way, met_rows(start, end, stretch), (start, stretch[0]))


def uneven_rows(form, unit):
    """The rows for which a form is no multiple of unit, with the rest told by one more name."""
    whole = one_row(REST, unit)
    return [with_more(minus(form, whole), -1), with_more(minus(whole, form), unit - 1)]


def note_uneven(findings, way, rules, form, ending):
    """Notes the cases in which a form is no multiple of unit."""
    if any([worth % rules.unit for worth in form]):
        note_break(findings, "lawful", way, uneven_rows(form, rules.unit), None, ending)


def note_own_place(findings, way, rules):
    """Notes where own's record does not lie as a right page asks."""
    at, low, size = way.forms["own.at"], way.forms["low"], way.forms["size"]
    end = added(at, unit_row(rules.unit, ASKED))
    note_uneven(findings, way, rules, at, None)
    note_break(findings, "lawful", way, [with_more(minus(low, at), -1)])
    note_break(findings, "lawful", way, [with_more(minus(end, size), -1)])
    for stretch in way.stretches:
        note_break(findings, "lawful", way, met_rows(at, end, stretch), (at, stretch[0]))


def note_lawful(findings, way, code, ending):
    """Notes where a page is left that is not right."""
    rules = code.rules
    low, size = way.forms["low"], way.forms["size"]
    note_break(findings, "lawful", way, [with_more(minus(edge_row(way, rules), low), -1)], None, ending)
    note_break(findings, "lawful", way, [with_more(minus(low, size), -1)], None, ending)
    note_uneven(findings, way, rules, low, ending)
    for stretch in way.stretches:
        row = with_more(minus(low, stretch[0]), -1)
        note_break(findings, "lawful", way, [row], (stretch[0], stretch[0]), ending)
    if code.kind in ("put", "set"):
        note_own_place(findings, way, rules)


def other_rooms(way, rules):
    """The rooms of all records but own."""
    below, above = way.marks["others"]
    names = ((BELOW,) if below else ()) + ((ABOVE,) if above else ())
    return unit_row(rules.unit, *names)


def note_books(findings, way, code, ending):
    """Notes where holes are left that are told wrong."""
    rooms = other_rooms(way, code.rules)
    if code.kind in ("put", "set"):
        rooms = added(rooms, unit_row(code.rules.unit, ASKED))
    free = minus(minus(way.forms["size"], way.forms["low"]), rooms)
    note_unlike(findings, "books", way, minus(way.forms["holes"], free), ending)


def note_left(findings, way, code, ending=None):
    """Notes what is wrong where what is owed was left."""
    note_lawful(findings, way, code, ending)
    note_books(findings, way, code, ending)


def with_equals(way, forms):
    """The way for the cases in which all forms are 0, or None if one never is."""
    if [form for form in forms if is_constant(form) and form[-1] != 0]:
        return None
    return branch(way, (), [form for form in forms if not is_constant(form)])


def note_own_owed(findings, way, code):
    """Notes the end of a put or set that is done."""
    forms = way.forms
    is_missing = forms["own.at"] is None or forms["own.len"] is None or forms["laid"] is None
    if is_missing or way.marks["taken"] == "next" and way.marks["delta"] == 0:
        note_break(findings, "owed", way)
        return
    owed = [minus(forms["own.len"], forms["len"]), minus(forms["own.at"], forms["laid"])]
    for form in owed:
        note_unlike(findings, "owed", way, form)
    rest = with_equals(way, owed)
    if rest is not None:
        note_left(findings, rest, code)


def note_strike_owed(findings, way, code):
    """Notes the end of a strike that is done."""
    is_held = way.forms["own.at"] is not None and way.forms["own.len"] is not None
    if way.marks["delta"] == 0:
        if is_held:
            note_break(findings, "owed", way)
        else:
            note_left(findings, way, code)
        return
    many = way.marks["others"].count(True)
    behind = with_more(minus(one_row(SLOTS), way.forms["number"]), -2)
    if is_held:
        note_break(findings, "owed", way, [behind])
    if many > 0:
        note_break(findings, "owed", way, [behind], None, True)
    rest = with_equals(way, [with_more(behind, 1)])
    if rest is not None:
        note_left(findings, rest, code)
    if not is_held:
        note_left(findings, branch(way, [behind, one_row(SLOTS, 1, -2 - many)]), code, False)


def note_pack_owed(findings, way, code):
    """Notes the end of a pack that is done."""
    full = minus(added(way.forms["low"], other_rooms(way, code.rules)), way.forms["size"])
    note_unlike(findings, "owed", way, full)
    rest = with_equals(way, [full])
    if rest is not None:
        note_left(findings, rest, code)


def note_done(findings, way, code):
    """Notes the end of a way that is done."""
    if code.kind == "strike":
        note_strike_owed(findings, way, code)
    elif code.kind == "pack":
        note_pack_owed(findings, way, code)
    else:
        note_own_owed(findings, way, code)
        if code.kind == "put" and way.forms["number"] is not None:
            findings.dones.append(way)


def fit_row(way, rules, slots):
    """The row that is 0 or more if the handed record fits, with so many slots."""
    rooms = added(other_rooms(way, rules), unit_row(rules.unit, ASKED))
    taken = with_more(added(rooms, slots, rules.slot), rules.head)
    return minus(unit_row(rules.unit, SIZE), taken)


def note_refused(findings, way, code, empties):
    """Notes the end of a way that is refused; empties are the ways with an empty slot, and with none (or None)."""
    if way.marks["is_changed"]:
        note_break(findings, "full", way)
    elif code.kind == "set":
        note_break(findings, "full", way, [fit_row(way, code.rules, slots_row(way))])
    else:
        for side, more in ((empties[0], 0), (empties[1], 1)):
            if side is not None:
                note_break(findings, "full", side, [fit_row(side, code.rules, one_row(SLOTS, 1, more))])
