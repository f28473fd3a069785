"""Book cases: which values are cases, what fields and seals they have, and what is owed in them."""

from heldplaces.values import is_between, is_from


def are_lengths(value):
    """Whether a value is a tuple of lengths of groups."""
    return isinstance(value, tuple) and all([is_from(length, 1) for length in value])


def is_book_case(rules, kind, case):
    """Whether a value of any kind is a case for codes of a kind with these rules."""
    if not isinstance(case, tuple) or len(case) != 5:
        return False
    size, place, done, more, own = case
    if not is_from(size, 1) or not rules.in_use(size) or not is_between(place, 0, size - 1):
        return False
    if not are_lengths(done) or not are_lengths(more) or not is_from(own, 0):
        return False
    if own > 0 and (more or kind in ("undo", "redo")):
        return False
    return sum(done) + sum(more) + own <= rules.kept_rows(size)


def fields_of(case):
    """The fields (next, many, more, own, mark) of a case."""
    size, place, done, more, own = case
    return (place, sum(done) + own, sum(more), own, (place - own) % size)


def seals_of(case):
    """The lengths that are sealed in a case, by place."""
    size, place, done, more, own = case
    seals = {}
    at = place - own - sum(done)
    for lengths, start in ((done, at), (more, place)):
        first = start
        for length in lengths:
            seals[first % size] = length
            seals[(first + length - 1) % size] = length
            first = first + length
    return seals


class Owed:
    """What a code owes in a case: the rows that it writes, takes back and does again, and the fields that it leaves."""

    def __init__(self, written, back, again, fields):
        self.written = written
        self.back = back
        self.again = again
        self.fields = fields


def places_back(size, place, many):
    """So many places, going back from ahead of a place."""
    return tuple([(place - 1 - k) % size for k in range(many)])


def places_on(size, place, many):
    """So many places, going on from a place."""
    return tuple([(place + k) % size for k in range(many)])


def owed_by_note(case, keep):
    """What is owed behind a call, or None."""
    size, place, done, _, own = case
    if own == keep:
        return None
    _, many, _, _, mark = fields_of(case)
    left = many - done[0] if many == keep else many
    return Owed((place,), (), (), ((place + 1) % size, left + 1, 0, own + 1, mark))


def owed_by_fail(case):
    """What is owed where the open group is taken back."""
    size, place, _, _, own = case
    _, many, more, _, mark = fields_of(case)
    return Owed((), places_back(size, place, own), (), (mark, many - own, more, 0, mark))


def owed_by_undo(case):
    """What is owed where the latest group is undone, or None."""
    size, place, done, _, _ = case
    if not done:
        return None
    _, many, more, _, _ = fields_of(case)
    there = (place - done[-1]) % size
    return Owed((), places_back(size, place, done[-1]), (), (there, many - done[-1], more + done[-1], 0, there))


def owed_by_redo(case):
    """What is owed where the first undone group is done again, or None."""
    size, place, _, undone, _ = case
    if not undone:
        return None
    _, many, more, _, _ = fields_of(case)
    there = (place + undone[0]) % size
    return Owed((), (), places_on(size, place, undone[0]), (there, many + undone[0], more - undone[0], 0, there))


def owed_by(kind, case, keep):
    """What a code of a kind owes in a case, or None where nothing but a no is owed."""
    if kind == "note":
        return owed_by_note(case, keep)
    if kind == "fail":
        return owed_by_fail(case)
    return owed_by_undo(case) if kind == "undo" else owed_by_redo(case)
