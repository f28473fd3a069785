"""The places of a store, their stamps, and looks at ids."""

from heldplaces.idplay import IdDesk, play_id


class HeldId:
    """An id, and the number of the call in which it was given."""

    def __init__(self, word, call):
        self.word = word
        self.given_by = call


def place_limits(store):
    """How many pages there may be, and how many slots there are for looks in each, lent or not."""
    rules = store.program.page_codes[0].rules
    return (store.program.most_pages, (store.size - rules.head) // rules.slot)


def look_at(store, word):
    """How a look at a number ends, and the place that it accepts, or None."""
    desk = IdDesk({"word": word, "page": -1, "slot": -1}, store.stamps, place_limits(store))
    ended = play_id(store.program.ids.look, desk)
    return ended, (desk.names["page"], desk.names["slot"]) if ended == "accept" else None


def is_lent(store, place):
    """Whether a place is lent."""
    return place in store.stamps and store.stamps[place][1]


def lend(store, place):
    """Lends a place: the id that is told, or None if it is retired."""
    if place in store.retired:
        return None
    stamp = store.stamps[place][0] if place in store.stamps else 0
    word, stamp = store.program.ids.given(place[0], place[1], stamp)
    store.stamps[place] = (stamp, True)
    return word


def bring_back(store, place):
    """Brings a place back. False if it is not lent."""
    if not is_lent(store, place):
        return False
    stamp, is_retired = store.program.ids.brought(place[0], place[1], store.stamps[place][0])
    store.stamps[place] = (stamp, False)
    if is_retired:
        store.retired[place] = True
    return True
