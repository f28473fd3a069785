"""Deeds played in a store. Each step tells the pair of its outcome and its value, or None where a play is beyond."""

from heldplaces.deedlines import OUTCOMES, line_behind, step_on
from heldplaces.deedsteps import is_beyond
from heldplaces.roomplay import full_at, play_told
from heldplaces.storecursors import move_cursors
from heldplaces.storepages import (
    RecordPage, break_store, enter_page, play_on, play_page_in, record_at, told_behind)
from heldplaces.storeplaces import HeldId, bring_back, lend, look_at


class DeedCall:
    """A call whose deed is played: what it is handed, its registers, the steps that came out, and the id it gave."""

    def __init__(self, number, key, length):
        self.number = number
        self.key = key
        self.length = length
        self.held = {"h": None, "i": None, "p": None, "q": None}
        self.steps = []
        self.gift = None


def step_find(store, made, form):
    """find H"""
    found = store.index.get(made.key)
    made.held[form[1]] = found
    return ("none", None) if found is None else ("there", found.word)


def step_look(store, made, form):
    """look H P"""
    ended, place = look_at(store, made.held[form[1]].word)
    if ended == "beyond":
        break_store(store, "ids", "look")
        return None
    made.held[form[2]] = place
    return ("stale" if place is None else "held", place)


def offered_pages(store, play, length):
    """The pages that are offered for a length, in their order."""
    found = []
    for number, page in enumerate(store.pages):
        if page.entry >= play.number and (page.fit >= length or not play.is_looking):
            found.append((page.entry, number))
    return [number for _, number in sorted(found)]


def lay_on_new(store, made):
    """Puts a record into a new page, which is kept unless it is refused."""
    put = store.program.page_codes[0]
    page = RecordPage(store.size, store.size, (), 0)
    ended, own = play_on(put, page, None, made.length, made.number)
    if ended == "refused":
        return ("full", None)
    store.pages.append(page)
    if ended == "beyond":
        break_store(store, "pages", "put")
        return None
    if not enter_page(store, page):
        return None
    return ("laid", None if own is None else (len(store.pages) - 1, own))


def lay_record(store, made):
    """Puts a record into the first page that takes it."""
    put = store.program.page_codes[0]
    if made.length > full_at(put.rules, store.size):
        return ("full", None)
    play = play_told(store.program.room_code, "ask", store.size, made.length)
    if play.number is None:
        break_store(store, "rooms", "ask")
        return None
    for number in offered_pages(store, play, made.length):
        page = store.pages[number]
        ended, own = play_on(put, page, None, made.length, made.number)
        if told_behind(store, put, page, ended) is None:
            return None
        if ended == "done":
            return ("laid", None if own is None else (number, own))
    if len(store.pages) < store.program.most_pages:
        return lay_on_new(store, made)
    return ("full", None)


def step_lay(store, made, form):
    """lay P"""
    told = lay_record(store, made)
    made.held[form[1]] = None if told is None else told[1]
    return told


def step_give(store, made, form):
    """give H P"""
    word = lend(store, made.held[form[2]])
    if word is None:
        made.held[form[1]] = None
        return ("out", None)
    made.gift = word
    made.held[form[1]] = HeldId(word, made.number)
    return ("given", word)


def step_free(store, made, form):
    """free P"""
    place = made.held[form[1]]
    return ("freed" if bring_back(store, place) else "unlent", place)


def step_strike(store, made, form):
    """strike P"""
    place = made.held[form[1]]
    if record_at(store, place) is None:
        return ("bare", place)
    ended = play_page_in(store, store.program.page_codes[1], place, None, made.number)
    return None if ended is None else ("struck", place)


def step_stretch(store, made, form):
    """stretch P"""
    place = made.held[form[1]]
    if record_at(store, place) is None:
        return ("bare", place)
    ended = play_page_in(store, store.program.page_codes[2], place, made.length, made.number)
    if ended is None:
        return None
    return ("stretched" if ended == "done" else "full", place)


STEPS = {
    "find": step_find,
    "look": step_look,
    "lay": step_lay,
    "give": step_give,
    "free": step_free,
    "strike": step_strike,
    "stretch": step_stretch,
}


def play_plain(store, made, form):
    """What a step without outcomes does."""
    if form[0] == "copy":
        made.held[form[1]] = made.held[form[2]]
    elif form[0] == "enter":
        store.index[made.key] = made.held[form[1]]
        made.steps.append(("enter", None, made.held[form[1]].word))
    else:
        store.index.pop(made.key, None)
        move_cursors(store, made.key)
        made.steps.append(("leave", None, None))


def play_in_store(store, code, made):
    """Plays a deed: "ok" or "no", as it quits, or None where a play is beyond."""
    forms, blocks = code.forms, code.blocks
    line = step_on(forms, blocks, 1)
    while line <= len(forms) and forms[line - 1][0] != "quit":
        form = forms[line - 1]
        if is_beyond(made, form):
            break_store(store, "deeds", code.kind)
            return None
        if form[0] in OUTCOMES:
            step = STEPS[form[0]]
            told = step(store, made, form)
            if told is None:
                return None
            made.steps.append((form[0], told[0], told[1]))
            line = step_on(forms, blocks, line_behind(blocks, line, told[0]))
        else:
            play_plain(store, made, form)
            line = step_on(forms, blocks, line + 1)
    return "ok" if line > len(forms) else forms[line - 1][1]
