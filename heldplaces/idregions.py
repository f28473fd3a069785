"""Regions of places for which all tests with page and slot come out alike: they have the same rows of stamps."""


class Region:
    """The places with a page and a slot from a first to a last one each; the last slot may be None, for no end."""

    def __init__(self, pages, slots):
        self.pages = pages
        self.slots = slots


def part_cuts(part, name):
    """The numbers from which on a part of a test may come out otherwise than below."""
    _, sign, left, right = part
    if left == name and isinstance(right, int):
        return {"<": [right], "<=": [right + 1], "is": [right, right + 1]}[sign]
    if right == name and isinstance(left, int):
        return {"<": [left + 1], "<=": [left], "is": [left, left + 1]}[sign]
    return []


def cuts_of(codes, name):
    """The numbers from which on tests with a name may come out otherwise, ascending."""
    found = {}
    for code in codes:
        for form in code.forms:
            for part in form[1] if form[0] == "if" else ():
                for number in part_cuts(part, name):
                    found[number] = True
    return sorted(list(found))


def stretches_of(cuts, end):
    """The stretches (first, last) of numbers from 0 to below an end (None: no end) between cuts."""
    starts = [0] + [cut for cut in cuts if cut > 0 and (end is None or cut < end)]
    lasts = [start - 1 for start in starts[1:]] + [None if end is None else end - 1]
    return [(first, last) for first, last in zip(starts, lasts)]


def regions_of(ids, pages, many):
    """All regions of so many pages with so many slots each (None: no end)."""
    codes = (ids.give, ids.free)
    rows = stretches_of(cuts_of(codes, "page"), pages)
    columns = stretches_of(cuts_of(codes, "slot"), many)
    return [Region(row, column) for row in rows for column in columns]
