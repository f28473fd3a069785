"""The faults of a store, row by row."""

from heldplaces.storepages import is_page_right, name_at, record_at
from heldplaces.storeplaces import is_lent, look_at


def places_led_to(store):
    """The place to which the id of each key leads, None where it is refused."""
    return {key: look_at(store, store.index[key].word)[1] for key in store.index}


def page_faults(store):
    """The record pages that are not right, or whose holes are not."""
    rules = store.program.page_codes[0].rules
    return [("page", number) for number, page in enumerate(store.pages) if not is_page_right(rules, page)]


def key_fault(store, key, places):
    """The word of the first fault of a key that is wanted or in the index, or None."""
    if key not in store.index:
        return "missing"
    if key not in store.wanted:
        return "extra"
    place = places[key]
    record = None if place is None else record_at(store, place)
    if record is None:
        return "lost"
    call, length = store.wanted[key]
    if name_at(store, place) != call:
        return "spoilt"
    return None if record[1] == length else "long"


def key_faults(store, places):
    """The faults of keys, ascending."""
    found = []
    met = {**store.wanted, **store.index}
    for key in sorted(list(met)):
        word = key_fault(store, key, places)
        if word is not None:
            found.append((word, key))
    return found


def alike_faults(store):
    """The keys whose id a lesser one has as well."""
    found = []
    met = {}
    for key in sorted(list(store.index)):
        word = store.index[key].word
        if word in met:
            found.append(("alike", key))
        met[word] = True
    return found


def place_faults(store, places):
    """The places that are lent, and those with a record, to which no id of a key leads."""
    led = {places[key]: True for key in places}
    lent = [place for place in store.stamps if is_lent(store, place)]
    held = []
    for number, page in enumerate(store.pages):
        held.extend([(number, slot) for slot, record in enumerate(page.row) if record is not None])
    found = [("lent", page, slot) for page, slot in sorted(lent) if (page, slot) not in led]
    return found + [("stray", page, slot) for page, slot in held if (page, slot) not in led]


def shown_faults(store):
    """The calls whose id no key has from them any more, but that a look accepts."""
    if not store.program.outside:
        return []
    kept = {store.index[key].given_by: True for key in store.index}
    return [("shown", call) for call in sorted(list(store.gifts))
            if call not in kept and look_at(store, store.gifts[call])[1] is not None]


def find_faults(store):
    """All faults, in their order."""
    places = places_led_to(store)
    found = page_faults(store) + key_faults(store, places) + alike_faults(store)
    return tuple(found + place_faults(store, places) + shown_faults(store))
