"""All ways through a page code, for all page cases at once. Each step tells the ways on which it goes on."""

from heldplaces.codelines import step_on
from heldplaces.pagebreaks import Findings, note_break, note_done, note_lay, note_refused
from heldplaces.pageforks import fork_at, fork_empty, numbered, sum_form, test_ways
from heldplaces.pagenames import (
    ABOVE, ASKED, BELOW, NUMBER, OWN_QUOTIENT, QUOTIENT, ROOM, SIZE, SLOTS, number_row, one_row, unit_row)
from heldplaces.pagestarts import branch, start_ways
from heldplaces.searching import can_hold
from heldplaces.wholerows import added, is_constant, minus, with_more


def gone_beyond(way, findings):
    """A way that is beyond: it does not go on."""
    note_break(findings, "inside", way)
    return []


def with_form(way, name, form):
    """The way with a name that stands for another form."""
    found = branch(way)
    found.forms[name] = form
    return found


def kept_inside(way, findings, row):
    """The ways on which a row is 0 or more; where it is not, the play is beyond."""
    inside, outside = fork_at(way, row)
    if outside is not None:
        note_break(findings, "inside", outside)
    return [] if inside is None else [inside]


def kept_between(way, findings, rules, form, least):
    """The ways on which a field, own.at or own.len may be set to a form."""
    ways = kept_inside(way, findings, with_more(form, -least))
    if rules.most is None:
        return ways
    found = []
    for one in ways:
        found.extend(kept_inside(one, findings, minus(number_row(rules.most), form)))
    return found


def way_set(way, code, form, findings):
    """R = SUM"""
    total = sum_form(way, code.rules, form[2])
    if total is None:
        return gone_beyond(way, findings)
    return [with_form(way, form[1], total)]


def divided(way, form, number, name):
    """The way with a quotient, and its form: a name of its own, where the form has no whole one."""
    if is_constant(form) or not any([worth % number for worth in form]):
        return way, tuple([worth // number for worth in form])
    times = one_row(name, number)
    rest = minus(form, times)
    return branch(way, [rest, minus(number_row(number - 1), rest)]), one_row(name)


def way_divide(way, code, form, findings):
    """R = SUM // D"""
    total = sum_form(way, code.rules, form[2])
    if total is None:
        return gone_beyond(way, findings)
    found, quotient = divided(way, total, form[3], QUOTIENT + way.marks["divisions"])
    found = with_form(found, form[1], quotient)
    found.marks["divisions"] += 1
    return [found]


def with_room(way, rules):
    """The way with a form for the room of own's length."""
    if way.forms["room"] is not None:
        return way
    length = way.forms["own.len"]
    if length == way.forms["len"]:
        return with_form(way, "room", unit_row(rules.unit, ASKED))
    found, rooms = divided(way, with_more(length, rules.unit - 1), rules.unit, OWN_QUOTIENT)
    return with_form(found, "room", tuple([worth * rules.unit for worth in rooms]))


def way_room(way, code, form, findings):
    """R = room len, R = room own.len"""
    if form[2] == "len":
        return [with_form(way, form[1], unit_row(code.rules.unit, ASKED))]
    if way.forms["own.len"] is None:
        return gone_beyond(way, findings)
    found = with_room(way, code.rules)
    return [with_form(found, form[1], found.forms["room"])]


def way_field(way, code, form, findings):
    """low = SUM, holes = SUM"""
    total = sum_form(way, code.rules, form[2])
    if total is None:
        return gone_beyond(way, findings)
    found = [with_form(one, form[1], total) for one in kept_between(way, findings, code.rules, total, 0)]
    for one in found:
        one.marks["is_changed"] = True
    return found


def way_slots(way, code, form, findings):
    """slots = slots + 1, slots = slots - 1"""
    found = branch(way)
    found.marks["delta"] = form[1]
    found.marks["is_changed"] = True
    if code.kind == "strike":
        return [numbered(found, code.kind)]
    if code.rules.most is None:
        return [found]
    return kept_between(found, findings, code.rules, one_row(SLOTS, 1, 1), 0)


def way_take(way, code, form, findings):
    """take empty, take next"""
    there = way
    if form[1] == "empty":
        there, full = fork_empty(way)
        if full is not None:
            note_break(findings, "inside", full)
        if there is None:
            return []
    found = branch(there)
    found.marks["taken"] = form[1]
    found.marks["is_changed"] = True
    found.forms["number"] = own_number(found, form[1])
    return [found]


def own_number(way, word):
    """The number of a slot that is taken."""
    if word == "next":
        return one_row(SLOTS)
    return one_row(NUMBER) if way.marks["others"][0] else number_row(0)


def way_clear(way, code, form, findings):
    """clear own"""
    found = branch(way)
    for name in ("own.at", "own.len", "room"):
        found.forms[name] = None
    found.marks["is_changed"] = True
    return [found]


def way_own(way, code, form, findings):
    """own.at = SUM, own.len = SUM"""
    total = sum_form(way, code.rules, form[2])
    if total is None or way.forms["number"] is None:
        return gone_beyond(way, findings)
    least = 0 if form[1] == "own.at" else 1
    found = [with_form(one, form[1], total) for one in kept_between(way, findings, code.rules, total, least)]
    for one in found:
        one.marks["is_changed"] = True
        if form[1] == "own.len":
            one.forms["room"] = None
    return found


def way_pack(way, code, form, findings):
    """pack"""
    unit = code.rules.unit
    below, above = way.marks["others"]
    found = branch(way)
    found.marks["is_changed"] = True
    found.marks["is_packed"] = True
    end = unit_row(unit, SIZE)
    stretches = []
    if above:
        start = minus(end, unit_row(unit, ABOVE))
        stretches.append((start, end))
        end = start
    if way.forms["own.at"] is not None:
        end = minus(end, unit_row(unit, ROOM))
        found.forms["own.at"] = end
    if below:
        stretches.append((minus(end, unit_row(unit, BELOW)), end))
    found.stretches = tuple(stretches)
    return [found]


def way_lay(way, code, form, findings):
    """lay SUM"""
    start = sum_form(way, code.rules, form[1])
    if start is None:
        return gone_beyond(way, findings)
    found = []
    end = added(start, way.forms["len"])
    for one in kept_inside(way, findings, start):
        found.extend(kept_inside(one, findings, minus(way.forms["size"], end)))
    laid = [with_form(one, "laid", start) for one in found]
    for one in laid:
        note_lay(findings, one, code.rules, start)
        one.marks["is_changed"] = True
    return laid


STEPS = {
    "set": way_set,
    "divide": way_divide,
    "room": way_room,
    "field": way_field,
    "slots": way_slots,
    "take": way_take,
    "clear": way_clear,
    "own": way_own,
    "pack": way_pack,
    "lay": way_lay,
}


def end_way(way, code, findings, ended):
    """Notes what a way breaks that is at its end."""
    if ended == "done":
        note_done(findings, way, code)
        return
    sides = (None, None)
    if code.kind == "put" and not way.marks["is_changed"]:
        sides = fork_empty(way)
    note_refused(findings, way, code, sides)


def at_line(ways, line):
    """The ways, each of which goes on at a line."""
    found = [branch(way) for way in ways]
    for way in found:
        way.line = line
    return found


def is_bare(code, line):
    """Whether the block of an if has no lines."""
    ahead = code.forms[line][0]
    return ahead == "end" or ahead == "else" and code.forms[line + 1][0] == "end"


def follow_if(way, code, findings, line):
    """The ways on which a way goes on behind an if. Without lines in its block all cases go on alike."""
    holding, failing, beyond = test_ways(way, code, code.forms[line - 1][1])
    for one in beyond:
        note_break(findings, "inside", one)
    if is_bare(code, line) and not beyond:
        return at_line([way], code.jumps[line])
    return at_line(failing, code.jumps[line]) + at_line(holding, line + 1)


def follow(way, code, findings):
    """The ways on which a way goes on behind its next line."""
    line = step_on(code.forms, code.jumps, way.line)
    if line > len(code.forms):
        end_way(way, code, findings, "done")
        return []
    form = code.forms[line - 1]
    if form[0] in ("no", "quit"):
        end_way(way, code, findings, "refused" if form[0] == "no" else "done")
        return []
    if form[0] == "if":
        return follow_if(way, code, findings, line)
    step = STEPS[form[0]]
    return at_line(step(way, code, form, findings), line + 1)


def find_breaks(code):
    """What is found on all ways of a code."""
    findings = Findings()
    work = [way for way in start_ways(code) if can_hold(way.equals, way.rows)]
    while work:
        way = work.pop()
        work.extend(follow(way, code, findings))
    return findings
