"""All ways through a book code, for all book cases at once. Each step tells the ways on which it goes on."""

from heldplaces.bookbreaks import BookFindings, note_break, note_done, note_refused
from heldplaces.booklines import FIELDS
from heldplaces.booknames import LENGTH, NEXT, SIZE, one_row
from heldplaces.bookstarts import (
    branch, fork_at, fork_equal, narrowed, start_ways, sum_form, test_ways, there, wrapped_ways)
from heldplaces.codelines import step_on
from heldplaces.wholerows import added, minus, with_more


def kept_inside(way, findings, row):
    """The ways on which a row is 0 or more; where it is not, the play is beyond."""
    inside, outside = fork_at(way, row)
    if outside is not None:
        note_break(findings, "inside", outside)
    return there([inside])


def kept_between(way, findings, form, more):
    """The ways on which a form is from 0 to size and a number more."""
    found = []
    for one in kept_inside(way, findings, form):
        found.extend(kept_inside(one, findings, with_more(minus(one_row(SIZE), form), more)))
    return found


def kept_place(way, findings, form):
    """The ways on which a form is a place."""
    return kept_between(way, findings, form, -1)


def with_form(way, name, form):
    """The way with a name that stands for another form."""
    found = branch(way)
    found.forms[name] = form
    found.is_changed = way.is_changed or name in FIELDS
    return found


def way_set(way, form, findings):
    """R = SUM"""
    total = sum_form(way, form[2])
    ways = kept_between(way, findings, total, 0) if form[1] in FIELDS else [way]
    return [with_form(one, form[1], total) for one in ways]


def way_wrap(way, form, findings):
    """R = wrap SUM"""
    found = []
    for one, total in wrapped_ways(way, sum_form(way, form[2])):
        found.extend([with_form(some, form[1], total) for some in kept_place(one, findings, total)])
    return found


def unwritten_ways(way, findings, place):
    """The ways on which the row at a place was not written in this play; a written row has no seal."""
    if way.written is None:
        return [way]
    same, others = fork_equal(way, minus(place, way.written))
    if same is not None:
        note_break(findings, "inside", same)
    return others


def seal_sides(way, region, many, offset):
    """The ways on which a row of closed groups is the first row of a group, or the last one of a longer group.

    Offset is the number of the row, of so many, the oldest or first one 0.
    """
    length = one_row(LENGTH)
    first = narrowed(way, [with_more(length, -1), minus(minus(many, offset), length)])
    last = narrowed(way, [with_more(length, -2), with_more(minus(offset, length), 1)])
    for found, side in ((first, "first"), (last, "last")):
        if found is not None:
            found.sealed = (region, side, offset)
    return there([first, last])


def note_inner(way, findings, region, many, offset):
    """Notes the plays that are beyond as a row is neither the first nor the last one of its group."""
    found = branch(way)
    found.sealed = (region, "inner", offset)
    note_break(findings, "inside", found, [with_more(offset, -1), with_more(minus(many, offset), -2)])


def region_ways(way, findings, region, many, offset):
    """The ways on which a seal is found at a row of closed groups, where the row is one of them."""
    inside = narrowed(way, [offset, with_more(minus(many, offset), -1)])
    if inside is None:
        return []
    note_inner(inside, findings, region, many, offset)
    return seal_sides(inside, region, many, offset)


def outside_rows(start, back, ahead):
    """Lists of rows for which a row is one of no closed group: back is how far it lies back, ahead how far ahead."""
    behind_done = minus(back, added(start.own, start.done))
    return [
        [with_more(minus(start.own, back), -1)],
        [behind_done, minus(ahead, start.more)],
    ]


def sealed_ways(way, findings, place):
    """The ways on which a seal is found at a place."""
    start = way.start
    found = []
    below, level = fork_at(way, with_more(minus(one_row(NEXT), place), -1))
    for one, back in ((below, 0), (level, 1)):
        if one is None:
            continue
        # The row lies so far behind the latest one that is done, and so far ahead of the first undone one.
        behind = with_more(added(minus(one_row(NEXT), place), one_row(SIZE), back), -1)
        ahead = added(minus(place, one_row(NEXT)), one_row(SIZE), 1 - back)
        for rows in outside_rows(start, behind, ahead):
            note_break(findings, "inside", one, rows)
        offset = with_more(minus(added(start.own, start.done), behind), -1)
        found.extend(region_ways(one, findings, "done", start.done, offset))
        found.extend(region_ways(one, findings, "more", start.more, ahead))
    return found


def way_sealed(way, form, findings):
    """R = sealed PLACE"""
    place = way.forms[form[2]]
    found = []
    for one in kept_place(way, findings, place):
        for some in unwritten_ways(one, findings, place):
            found.extend(sealed_ways(some, findings, place))
    return [with_form(one, form[1], one_row(LENGTH)) for one in found]


def way_write(way, form, findings):
    """write PLACE"""
    place = way.forms[form[1]]
    found = [branch(one) for one in kept_place(way, findings, place)]
    for one in found:
        one.written = place
        one.is_changed = True
    return found


def moved_ways(way, findings, sign, form):
    """The triples of a way, how often it goes back or on, and next behind that; sign is -1 for back, 1 for again."""
    here = way.forms["next"]
    found = []
    if form[1] == "times":
        times = sum_form(way, form[2])
        for one in kept_between(way, findings, times, 0):
            found.extend([(some, times, ahead) for some, ahead in wrapped_ways(one, added(here, times, sign))])
        return found
    place = way.forms[form[2]]
    apart = minus(place, here) if sign == 1 else minus(here, place)
    for one in kept_place(way, findings, place):
        found.extend([(some, times, place) for some, times in wrapped_ways(one, apart)])
    return found


def way_move(way, form, findings):
    """back SUM times, back until PLACE, again SUM times, again until PLACE"""
    here = way.forms["next"]
    found = []
    for one in kept_place(way, findings, here):
        for some, times, ahead in moved_ways(one, findings, -1 if form[0] == "back" else 1, form):
            after = with_form(some, "next", ahead)
            after.moved = (here, times)
            found.append(after)
    return found


STEPS = {
    "set": way_set,
    "wrap": way_wrap,
    "sealed": way_sealed,
    "write": way_write,
    "back": way_move,
    "again": way_move,
}


def at_line(ways, line):
    """The ways, each of which goes on at a line."""
    found = [branch(way) for way in ways]
    for way in found:
        way.line = line
    return found


def is_bare(code, line):
    """Whether the block of an if has no lines."""
    ahead = code.forms[line][0]
    return ahead == "end" or ahead == "else" and code.forms[line + 1][0] == "end"


def follow_if(way, code, line):
    """The ways on which a way goes on behind an if. Without lines in its block all cases go on alike."""
    if is_bare(code, line):
        return at_line([way], code.jumps[line])
    holding, failing = test_ways(way, code.forms[line - 1][1])
    return at_line(failing, code.jumps[line]) + at_line(holding, line + 1)


def follow(way, code, findings):
    """The ways on which a way goes on behind its next line."""
    line = step_on(code.forms, code.jumps, way.line)
    if line > len(code.forms) or code.forms[line - 1][0] == "quit":
        note_done(findings, way, code)
        return []
    form = code.forms[line - 1]
    if form[0] == "no":
        note_refused(findings, way, code)
        return []
    if form[0] == "if":
        return follow_if(way, code, line)
    step = STEPS[form[0]]
    return at_line(step(way, form, findings), line + 1)


def find_breaks(code):
    """What is found on all ways of a code."""
    findings = BookFindings()
    work = start_ways(code.kind, code.rules)
    while work:
        way = work.pop()
        work.extend(follow(way, code, findings))
    return findings
