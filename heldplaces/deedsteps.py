"""A right store as a deed sees it, and what its steps do there.

Only the handed key and its parts matter: no step comes to other ones. OLD is the id and the place that the key has at
the beginning, NEW the id that the deed gives and the place that no record had; of both a way has one at most. OTHER
stands for what comes up on rows that no right store tells.
"""

OLD = 0
NEW = 1
OTHER = 2
BEFORE = "before"
HANDED = "handed"


class DeedStore:
    """What a deed has changed so far; homes tells the places of ids, gone the ids whose places were brought back.

    is_reused: lay comes to the place of the record that was struck, and not to another one.
    """

    def __init__(self, kind, is_reused):
        is_there = kind != "enter"
        self.is_reused = is_reused
        self.held = {"h": None, "i": None, "p": None, "q": None}
        self.index = OLD if is_there else None
        self.records = {OLD: BEFORE} if is_there else {}
        self.lent = {OLD: True} if is_there else {}
        self.struck = {}
        self.homes = {OLD: OLD, OTHER: OTHER}
        self.gone = {}
        self.is_twice_lent = False
        self.is_honest = True
        self.needs_stale = False


def copied(store):
    """A store like this one."""
    found = DeedStore("enter", store.is_reused)
    found.held = dict(store.held)
    found.index = store.index
    found.records = dict(store.records)
    found.lent = dict(store.lent)
    found.struck = dict(store.struck)
    found.homes = dict(store.homes)
    found.gone = dict(store.gone)
    found.is_twice_lent = store.is_twice_lent
    found.is_honest = store.is_honest
    found.needs_stale = store.needs_stale
    return found


def expect(store, is_told, is_so):
    """A row is honest only where what is told is so."""
    if is_told != is_so:
        store.is_honest = False


def step_find(store, form, outcome):
    """find H"""
    is_told = outcome == "there"
    expect(store, is_told, store.index is not None)
    if not is_told:
        store.held[form[1]] = None
    else:
        store.held[form[1]] = OTHER if store.index is None else store.index


def step_look(store, form, outcome):
    """look H P"""
    shown = store.held[form[1]]
    if store.is_honest and shown in store.gone:
        store.needs_stale = True
    expect(store, outcome == "held", shown not in store.gone)
    store.held[form[2]] = store.homes[shown] if outcome == "held" else None


def step_lay(store, form, outcome):
    """lay P"""
    if outcome == "full":
        store.held[form[1]] = None
        return
    place = OLD if store.is_reused else NEW
    if store.is_reused and (OLD not in store.struck or OLD in store.records):
        store.is_honest = False
    store.records[place] = HANDED
    store.held[form[1]] = place


def step_give(store, form, outcome):
    """give H P"""
    if outcome == "out":
        store.held[form[1]] = None
        return
    place = store.held[form[2]]
    if place in store.lent:
        store.is_twice_lent = True
    store.lent[place] = True
    store.homes[NEW] = place
    store.held[form[1]] = NEW


def step_free(store, form, outcome):
    """free P"""
    place = store.held[form[1]]
    expect(store, outcome == "freed", place in store.lent)
    if outcome == "freed" and place in store.lent:
        del store.lent[place]
        for one in store.homes:
            if store.homes[one] == place:
                store.gone[one] = True


def step_strike(store, form, outcome):
    """strike P"""
    place = store.held[form[1]]
    expect(store, outcome == "struck", place in store.records)
    if outcome == "struck" and place in store.records:
        del store.records[place]
        store.struck[place] = True


def step_stretch(store, form, outcome):
    """stretch P"""
    place = store.held[form[1]]
    expect(store, outcome != "bare", place in store.records)
    if outcome == "stretched":
        store.records[place] = HANDED


STEPS = {
    "find": step_find,
    "look": step_look,
    "lay": step_lay,
    "give": step_give,
    "free": step_free,
    "strike": step_strike,
    "stretch": step_stretch,
}


def play_step(store, form, outcome):
    """What a step does that comes out so."""
    step = STEPS[form[0]]
    step(store, form, outcome)


def play_plain(store, form):
    """What a step without outcomes does."""
    if form[0] == "copy":
        store.held[form[1]] = store.held[form[2]]
    elif form[0] == "enter":
        store.index = store.held[form[1]]
    else:
        store.index = None


def is_beyond(store, form):
    """Whether a step is met without the id or the place that it needs."""
    if form[0] in ("look", "enter"):
        return store.held[form[1]] is None
    if form[0] == "give":
        return store.held[form[2]] is None
    return form[0] in ("free", "strike", "stretch") and store.held[form[1]] is None


def is_right(store):
    """Whether the store is right."""
    if store.is_twice_lent:
        return False
    home = None
    if store.index is not None:
        home = store.homes[store.index]
        if store.index in store.gone or home not in store.records:
            return False
    return all([place == home for place in list(store.records) + list(store.lent)])


def leaves_owed(store, kind):
    """Whether the store has what is owed by a deed of a kind."""
    if kind == "leave":
        return store.index is None
    return store.index is not None and store.records.get(store.homes[store.index]) == HANDED


def is_as_before(store, kind):
    """Whether the index, the records and the lent places are as they were."""
    start = DeedStore(kind, False)
    return store.index == start.index and store.records == start.records and store.lent == start.lent
