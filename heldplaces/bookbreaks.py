"""What ways through a book code break, and for which cases."""

from heldplaces.booklines import FIELDS
from heldplaces.booknames import GROUP, LENGTH, NEXT, number_row, one_row
from heldplaces.bookstarts import branch, fork_at, narrowed, there, wrapped_ways
from heldplaces.wholerows import added, is_constant, minus, times_row, with_more

# Where the group lies that is owed to be forgotten, taken back or done again.
REGIONS = {"note": ("done", "first"), "undo": ("done", "last"), "redo": ("more", "first")}


class BookBreak:
    """The cases of a way for which rows hold, all of which break a promise.

    Group tells where the group lies whose length is the name GROUP, as (region, side), or is None.
    """

    def __init__(self, way, group):
        self.rows = way.rows
        self.start = way.start
        self.sealed = way.sealed
        self.group = group


class BookFindings:
    """What was found on all ways of a code: breaks for each promise."""

    def __init__(self):
        self.breaks = {"inside": [], "rows": [], "fields": [], "full": []}


class OwedWay:
    """A way that is done where something is owed.

    Length is that of the group that is owed to be forgotten, taken back or done again, 0 if there is none.
    """

    def __init__(self, way, length, group):
        self.way = way
        self.length = length
        self.group = group


def note_break(findings, promise, way, rows=(), group=None):
    """Notes the cases of a way for which rows hold, unless a row surely fails."""
    if any([is_constant(row) and row[-1] < 0 for row in rows]):
        return
    some = [row for row in rows if not is_constant(row)]
    findings.breaks[promise].append(BookBreak(branch(way, some), group))


def note_unlike(findings, promise, owed, row, rows=()):
    """Notes the cases of a way for which a row is not 0, and others are 0 or more."""
    for one in (row, times_row(row, -1)):
        note_break(findings, promise, owed.way, [with_more(one, -1)] + list(rows), owed.group)


def seal_span(way):
    """The numbers of the first row and of the one behind the last one of the group whose seal was found."""
    _, side, offset = way.sealed
    if side == "first":
        return offset, added(offset, one_row(LENGTH))
    return with_more(minus(offset, one_row(LENGTH)), 1), with_more(offset, 1)


def free_group(way, region, side, many):
    """The way with a length of its own for a group that is one of so many rows, or None."""
    found = narrowed(way, [one_row(GROUP, 1, -1), minus(many, one_row(GROUP))])
    return None if found is None else OwedWay(found, one_row(GROUP), (region, side))


def group_ways(way, kind):
    """The ways with a length for the group that is owed; it can be the one whose seal was found."""
    region, side = REGIONS[kind]
    many = way.start.done if region == "done" else way.start.more
    if way.sealed is None or way.sealed[0] != region:
        return there([free_group(way, region, side, many)])
    first, end = seal_span(way)
    ahead = first if side == "first" else minus(many, end)
    same = narrowed(way, [ahead, times_row(ahead, -1)])
    found = [] if same is None else [OwedWay(same, one_row(LENGTH), None)]
    return found + there([free_group(way, region, side, ahead)])


def owed_by_note(way):
    """The ways on which a row is owed, and the one on which nothing is owed, or None."""
    full, open_way = fork_at(way, minus(way.start.own, way.forms["keep"]))
    if open_way is None:
        return [], full
    many = added(way.start.done, way.start.own)
    crowded, spare = fork_at(open_way, minus(many, way.forms["keep"]))
    found = [] if spare is None else [OwedWay(spare, number_row(0), None)]
    return found + ([] if crowded is None else group_ways(crowded, "note")), full


def owed_ways(way, kind):
    """The ways on which something is owed, and the one on which nothing is owed, or None."""
    if kind == "note":
        return owed_by_note(way)
    if kind == "fail":
        return [OwedWay(way, number_row(0), None)], None
    many = way.start.done if kind == "undo" else way.start.more
    some, none = fork_at(way, with_more(many, -1))
    return [] if some is None else group_ways(some, kind), none


def note_written(findings, owed):
    """Notes where another row is written than the one that is owed."""
    if owed.way.written is None:
        note_break(findings, "rows", owed.way, (), owed.group)
    else:
        note_unlike(findings, "rows", owed, minus(owed.way.written, one_row(NEXT)))


def note_moved(findings, owed, many):
    """Notes where other rows are taken back or done again than the so many ones that are owed."""
    some = with_more(many, -1)
    if owed.way.moved is None:
        note_break(findings, "rows", owed.way, [some], owed.group)
        return
    place, times = owed.way.moved
    note_unlike(findings, "rows", owed, minus(times, many))
    note_unlike(findings, "rows", owed, minus(place, one_row(NEXT)), [some])


def fields_owed(owed, kind, place):
    """The fields that are owed, where next is owed to be a place."""
    start, length = owed.way.start, owed.length
    none = number_row(0)
    many = added(start.done, start.own)
    if kind == "note":
        return place, with_more(minus(many, length), 1), none, with_more(start.own, 1), start.mark
    if kind == "fail":
        return place, start.done, start.more, none, place
    sign = 1 if kind == "redo" else -1
    return place, added(many, length, sign), added(start.more, length, -sign), none, place


def places_owed(owed, kind):
    """The pairs of a way and the place that next is owed to be."""
    if kind == "fail":
        return [(owed.way, owed.way.start.mark)]
    if kind == "note":
        return wrapped_ways(owed.way, one_row(NEXT, 1, 1))
    return wrapped_ways(owed.way, added(one_row(NEXT), owed.length, 1 if kind == "redo" else -1))


def note_fields(findings, owed, kind):
    """Notes where other fields are left than those that are owed."""
    for way, place in places_owed(owed, kind):
        one = OwedWay(way, owed.length, owed.group)
        for name, form in zip(FIELDS, fields_owed(one, kind, place)):
            note_unlike(findings, "fields", one, minus(way.forms[name], form))


def note_done(findings, way, code):
    """Notes what a way breaks that is done."""
    some, none = owed_ways(way, code.kind)
    if none is not None:
        note_break(findings, "full", none)
    for owed in some:
        if code.kind == "note":
            note_written(findings, owed)
        else:
            note_moved(findings, owed, way.start.own if code.kind == "fail" else owed.length)
        note_fields(findings, owed, code.kind)


def note_refused(findings, way, code):
    """Notes what a way breaks that is refused."""
    some, none = owed_ways(way, code.kind)
    for owed in some:
        note_break(findings, "full", owed.way, (), owed.group)
    if none is not None and way.is_changed:
        note_break(findings, "full", none)
