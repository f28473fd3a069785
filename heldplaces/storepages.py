"""The record pages of a store, the names of their records, and what the map of free room is told of them."""

from heldplaces.pagedesk import PageDesk, is_written, row_of
from heldplaces.pagesteps import play_forms
from heldplaces.rightpages import is_right, rooms_of
from heldplaces.roomplay import full_at, play_told, room_tells


class RecordPage:
    """A record page: by slot the names of its records, its entry in the map, and what the map was told to fit last."""

    def __init__(self, size, low, row, holes):
        self.size = size
        self.low = low
        self.row = row
        self.holes = holes
        self.called = {}
        self.entry = None
        self.fit = None


def break_store(store, part, kind):
    """Notes a play that is beyond. Of several the first one counts."""
    if store.broken is None:
        store.broken = (part, kind)


def names_behind(page, desk, call):
    """The names of the records behind a play in a call, by slot."""
    found = {}
    for slot, record in enumerate(row_of(desk)):
        if record is None:
            continue
        if slot != desk.own:
            found[slot] = None if slot in desk.spoilt else page.called.get(slot)
        elif is_written(desk):
            found[slot] = call
        else:
            found[slot] = None if desk.is_changed else page.called.get(slot)
    return found


def play_on(code, page, own, length, call):
    """Plays a page code on a record page: how it ended, and own's number."""
    desk = PageDesk(code.rules, (page.size, page.low, page.row), page.holes, own, length)
    ended, _, _ = play_forms(code.forms, code.jumps, desk)
    page.called = names_behind(page, desk, call)
    page.row = row_of(desk)
    page.low = desk.low
    page.holes = desk.holes
    return ended, desk.own


def fit_of(rules, page):
    """The greatest length that fits into a page, from 0 to full."""
    slots = len(page.row) if None in page.row else len(page.row) + 1
    free = page.size - rules.head - rules.slot * slots - rooms_of(rules, page.row)
    return max(free, 0) // rules.unit * rules.unit


def play_class(store, fit):
    """The class of a fit; None where the play is beyond."""
    play = play_told(store.program.room_code, "class", store.size, fit)
    if play.number is None:
        break_store(store, "rooms", "class")
    return play.number


def tell_fit(store, page):
    """Tells the map what fits into a page now. False if a play is beyond."""
    code = store.program.room_code
    was = page.fit
    page.fit = fit_of(code.rules, page)
    told = room_tells(code, store.size, was, page.fit)
    if told is not None:
        page.entry = play_class(store, told)
    return store.broken is None


def enter_page(store, page):
    """Makes the entry of a page that was without slots at first, and tells the map what fits now."""
    page.fit = full_at(store.program.room_code.rules, store.size)
    page.entry = play_class(store, page.fit)
    return store.broken is None and tell_fit(store, page)


def play_page_in(store, code, place, length, call):
    """Plays a page code on a slot of a page of a store, and tells the map of it: how it ended, None if it is beyond."""
    page = store.pages[place[0]]
    ended, _ = play_on(code, page, place[1], length, call)
    return told_behind(store, code, page, ended)


def told_behind(store, code, page, ended):
    """How a page play ended of which the map is told; None if one of the two is beyond."""
    if ended == "beyond":
        break_store(store, "pages", code.kind)
        return None
    return ended if tell_fit(store, page) else None


def record_at(store, place):
    """The record (at, len) at a place, or None."""
    number, slot = place
    if number >= len(store.pages) or slot >= len(store.pages[number].row):
        return None
    return store.pages[number].row[slot]


def name_at(store, place):
    """The name of the record at a place, None if it has none."""
    return store.pages[place[0]].called.get(place[1])


def is_page_right(rules, page):
    """Whether a record page is right, and its holes are."""
    free = page.size - page.low - rooms_of(rules, page.row)
    return is_right(rules, page.size, page.low, page.row) and page.holes == free
