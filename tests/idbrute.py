"""All lives of all places, one after the other: the plain way to ask ids."""

from heldplaces.errors import Beyond

PROMISES = ("inside", "own", "stale", "unlike", "none")


class Asked(dict):
    """The places that a look sees, and which of them it asks for."""

    def __init__(self, places):
        super().__init__(places)
        self.keys_asked = []

    def get(self, key, default=None):
        self.keys_asked.append(key)
        return super().get(key, default)


def lives_of(ids, page, slot, most):
    """The lives of a place as (id, stamp while lent, stamp behind it), until its stamps have come round twice."""
    found, starts, stamp, left = [], {}, 0, None
    while left is None or left > 0:
        if stamp in starts and left is None:
            left = len(found) - starts[stamp]
        starts.setdefault(stamp, len(found))
        word, lent = ids.given(page, slot, stamp)
        stamp, is_retired = ids.brought(page, slot, lent)
        found.append((word, lent, stamp))
        if is_retired or len(found) > most:
            break
        left = None if left is None else left - 1
    return found


def states_of(lives):
    """The states in which a place can be, as (gives, stamp, whether it is lent)."""
    found = [(0, 0, False)]
    for k, (_, lent, brought) in enumerate(lives):
        found += [(k + 1, lent, True), (k + 1, brought, False)]
    return found


def later_states(lives, life, is_living):
    """The states in which a place can be whose id of a life is living, or stale."""
    if is_living:
        return [(life + 1, lives[life][1], True)]
    found = []
    for k in range(life, len(lives)):
        if k > life:
            found.append((k + 1, lives[k][1], True))
        found.append((k + 1, lives[k][2], False))
    return found


class Looker:
    """Looks at numbers, each of which asks for one place at most; what was answered is kept."""

    def __init__(self, ids, lives):
        self.ids = ids
        self.places = {place: (0, False) for place in lives}
        self.told = {}

    def answer(self, word, place=None, state=(0, False)):
        """What a look answers where a place is in a state, and which places it asked for."""
        key = (word, place, state)
        if key not in self.told:
            if place is not None:
                self.places[place] = state
            asked = Asked(self.places)
            try:
                answer = self.ids.answer(word, asked)
            except Beyond:
                answer = "beyond"
            self.told[key] = answer, asked.keys_asked
            if place is not None:
                self.places[place] = (0, False)
        return self.told[key]


def looks(looker, lives, place, life, is_living):
    """What looks at an id answer, in all states that matter to them, as (gives, answer)."""
    word = lives[place][life][0]
    _, asked = looker.answer(word)
    if asked and asked[0] in lives and asked[0] != place:
        return [(life + 1 + gives, looker.answer(word, asked[0], (stamp, is_lent))[0])
                for gives, stamp, is_lent in states_of(lives[asked[0]])]
    return [(gives, looker.answer(word, place, (stamp, is_lent))[0])
            for gives, stamp, is_lent in later_states(lives[place], life, is_living)]


def breaks(ids, pages, many, most=20):
    """The least gives behind which each promise is broken; no key for one that is kept."""
    lives = {(page, slot): lives_of(ids, page, slot, most) for page in range(pages) for slot in range(many)}
    found = {promise: [] for promise in PROMISES}
    looker = Looker(ids, lives)
    for place in lives:
        for life, (word, _, _) in enumerate(lives[place]):
            if word == ids.none:
                found["none"].append(life + 1)
            living, stale = looks(looker, lives, place, life, True), looks(looker, lives, place, life, False)
            found["inside"] += [gives for gives, told in living + stale if told == "beyond"]
            found["own"] += [gives for gives, told in living if told not in ("beyond", place)]
            found["stale"] += [gives for gives, told in stale if told not in ("beyond", None)]
    firsts = {}
    for place in lives:
        there = {}
        for life, (word, _, _) in enumerate(lives[place]):
            there.setdefault(word, life + 1)
        for word in there:
            firsts.setdefault(word, []).append(there[word])
    found["unlike"] = [sum(sorted(gives)[:2]) for gives in firsts.values() if len(gives) > 1]
    return {promise: min(found[promise]) for promise in PROMISES if found[promise]}


def histories(ids, pages, many, most):
    """The least gives behind which each promise is broken, by all histories of at most so many gives."""
    lives = {(page, slot): lives_of(ids, page, slot, most) for page in range(pages) for slot in range(many)}
    found = {}
    for gives in range(1, most + 1):
        for state in states_with(ids, list(lives), lives, gives):
            for promise in broken_in(ids, lives, state):
                found.setdefault(promise, gives)
    return found


def states_with(ids, places, lives, gives):
    """All states that histories with so many gives lead to: for each place its gives and whether it is lent."""
    if not places:
        return [{}] if gives == 0 else []
    found = []
    for more in range(0, gives + 1):
        if more > len(lives[places[0]]):
            break
        for rest in states_with(ids, places[1:], lives, gives - more):
            for is_lent in (True, False)[:1 + (more > 0)] if more else (False,):
                found.append({places[0]: (more, is_lent), **rest})
    return found


def broken_in(ids, lives, state):
    """The promises that are broken in a state."""
    seen, words, found = {}, [], set()
    for place, (gives, is_lent) in state.items():
        stamp = 0 if gives == 0 else lives[place][gives - 1][1 if is_lent else 2]
        seen[place] = (stamp, is_lent)
    for place, (gives, is_lent) in state.items():
        for life in range(gives):
            word = lives[place][life][0]
            is_living = is_lent and life == gives - 1
            words += [word] if is_living else []
            found |= {"none"} if word == ids.none else set()
            try:
                told = ids.answer(word, seen)
            except Beyond:
                found.add("inside")
                continue
            if is_living and told != place:
                found.add("own")
            if not is_living and told is not None:
                found.add("stale")
    return found | ({"unlike"} if len(set(words)) < len(words) else set())
