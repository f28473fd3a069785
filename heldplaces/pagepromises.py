"""Which promises of a page code one play breaks."""

from heldplaces.pagedesk import is_written, row_of
from heldplaces.pagerules import round_up
from heldplaces.rightpages import is_right, rooms_of

PROMISES = ("inside", "whole", "owed", "lawful", "books", "full")


def handed_length(kind, handed):
    """The length that is handed, or None."""
    if kind == "put":
        return handed
    return handed[1] if kind == "set" else None


def handed_own(kind, handed):
    """The number of own's slot at the beginning, or None."""
    if kind == "strike":
        return handed
    return handed[0] if kind == "set" else None


def record_fits(kind, rules, page, handed):
    """Whether the handed record fits, as the play finds the page."""
    size, _, row = page
    slots = len(row)
    rooms = rooms_of(rules, row) + round_up(handed_length(kind, handed), rules.unit)
    if kind == "put" and None not in row:
        slots = slots + 1
    if kind == "set":
        rooms = rooms - round_up(row[handed[0]][1], rules.unit)
    return rules.head + rules.slot * slots + rooms <= size


def length_at(row, slot):
    """The length of the record of a slot; None if there is none, or no slot."""
    if slot < len(row) and row[slot] is not None:
        return row[slot][1]
    return None


def others_stay(before, after, own):
    """Whether all records but own's are in the slots of the same numbers with the same lengths."""
    for slot in range(max(len(before), len(after))):
        if slot != own and length_at(before, slot) != length_at(after, slot):
            return False
    return True


def leaves_owed(kind, rules, page, handed, desk):
    """Whether a play that is done left what is owed."""
    row = row_of(desk)
    if not others_stay(page[2], row, desk.own):
        return False
    if kind == "pack":
        return desk.low + rooms_of(rules, row) == desk.size
    if kind == "strike":
        return length_at(row, desk.own) is None
    if desk.own is None or not is_written(desk):
        return False
    return length_at(row, desk.own) == handed_length(kind, handed)


def breaks_done(kind, rules, page, handed, desk):
    """The promises that a play breaks that is done, but for whole."""
    if not leaves_owed(kind, rules, page, handed, desk):
        return ["owed"]
    row = row_of(desk)
    found = []
    if not is_right(rules, desk.size, desk.low, row):
        found.append("lawful")
    if desk.holes != desk.size - desk.low - rooms_of(rules, row):
        found.append("books")
    return found


def broken_promises(kind, rules, page, handed, desk, ended):
    """The promises that a play breaks, in their order."""
    found = ["whole"] if desk.spoilt else []
    if ended == "beyond":
        found.append("inside")
    elif ended == "done":
        found = found + breaks_done(kind, rules, page, handed, desk)
    elif desk.is_changed or record_fits(kind, rules, page, handed):
        found.append("full")
    return tuple([promise for promise in PROMISES if promise in found])
