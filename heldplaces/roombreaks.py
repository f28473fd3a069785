"""What breaks the promises of a room code: rows of whole numbers for which a break comes up.

Of the fits that can stand beside a fit that was told last, the least one matters to safe, the greatest one to found.
Each of them is full, the told one, or 0, and some units more.
"""

from heldplaces.roomnames import (
    ASK_QUOTIENT, CLASS_QUOTIENT, LENGTH, SIZE, TOLD, full_row, least_units, number_row, one_row, size_rows)
from heldplaces.roomways import Bits, at_least, at_most, find_ends, open_rows
from heldplaces.wholerows import added, minus, with_more

PROMISES = ("inside", "safe", "found", "whole")


class RoomBreak:
    """Rows for which a promise is broken, and the fit, in units, of a case; None where a length breaks it by itself."""

    def __init__(self, rows, fit):
        self.rows = rows
        self.fit = fit


class ToldPair:
    """Rows for a fit that was told last, and the least and the greatest fit, in units, that can stand beside it."""

    def __init__(self, rows, least, greatest):
        self.rows = rows
        self.least = least
        self.greatest = greatest


def full_units(rules):
    """Full, in units."""
    return one_row(SIZE, 1, -least_units(rules))


def units_of(number, rules):
    """By how many units, at least one, a fit changes if it changes by a number or more."""
    return max(-(-number // rules.unit), 1)


def pairs_behind(code):
    """The fits that can be told last, and those beside them, where a change tells the fit behind it."""
    rules = code.rules
    full, told = full_units(rules), one_row(TOLD)
    least = number_row(0) if code.fall > rules.unit else told
    greatest = full if code.rise > rules.unit else told
    below = with_more(minus(full, told), -units_of(code.fall, rules))
    above = with_more(told, -units_of(code.rise, rules))
    return [ToldPair([row], least, greatest) for row in (minus(told, full), below, above)]


def pairs_ahead(code):
    """The fits that can be told last, and those beside them, where a change tells the fit ahead of it."""
    rules = code.rules
    full, told, none = full_units(rules), one_row(TOLD), number_row(0)
    falls, rises = code.fall > rules.unit, code.rise > rules.unit
    fall, rise = units_of(code.fall, rules), units_of(code.rise, rules)
    return [
        ToldPair([minus(told, full)], none if falls else full, full),
        ToldPair([with_more(told, -fall)], none, full if rises else with_more(told, -fall)),
        ToldPair([with_more(minus(full, told), -rise)], none if falls else with_more(told, rise), full),
    ]


def told_pairs(code):
    """The fits that can be told last, and the least and the greatest ones beside them."""
    return pairs_behind(code) if code.when == "behind" else pairs_ahead(code)


def told_rows(rules):
    """What a fit keeps to at sizes with a full of a unit or more."""
    full = full_units(rules)
    return size_rows(rules) + [with_more(full, -1), one_row(TOLD), minus(full, one_row(TOLD))]


def length_rows(rules):
    """What a length keeps to."""
    full = full_units(rules)
    return size_rows(rules) + [with_more(full, -1), one_row(LENGTH, 1, -1), minus(full_row(rules), one_row(LENGTH))]


def class_ends(code):
    """The ends of ways through the text for classes, for all sizes with a full of a unit or more."""
    rules = code.rules
    forms = {"size": one_row(SIZE, rules.unit), "full": full_row(rules), "fit": one_row(TOLD, rules.unit)}
    return find_ends(code.classes, code.top, forms, told_rows(rules), CLASS_QUOTIENT)


def bare_ends(code):
    """The ends of ways through the text for classes, for all sizes with a full of 0."""
    rules = code.rules
    rows = size_rows(rules) + [minus(number_row(0), full_units(rules)), one_row(TOLD), one_row(TOLD, -1)]
    forms = {"size": one_row(SIZE, rules.unit), "full": number_row(0), "fit": number_row(0)}
    return find_ends(code.classes, code.top, forms, rows, CLASS_QUOTIENT)


def ask_ends(code):
    """The ends of ways through the text for asking."""
    forms = {"size": one_row(SIZE, code.rules.unit), "full": full_row(code.rules), "len": one_row(LENGTH)}
    return find_ends(code.asks, code.top, forms, length_rows(code.rules), ASK_QUOTIENT)


def done_ends(ends):
    """The ends at which a class is told."""
    return [end for end in ends if end.number is not None]


def not_below(one, two, top):
    """Lists of rows: in each case of one of them the first class is not below the second one."""
    if not isinstance(one, Bits) and not isinstance(two, Bits):
        return [[minus(one, two)]]
    return [[at_least(one, value), at_most(two, value)] for value in range(top + 1)]


def below(one, two, top):
    """Lists of rows: in each case of one of them the first class is below the second one."""
    if not isinstance(one, Bits) and not isinstance(two, Bits):
        return [[with_more(minus(two, one), -1)]]
    return [[at_most(one, value), at_least(two, value + 1)] for value in range(top)]


def joined(rows, lists, fit):
    """The breaks for which rows and one of several lists of rows hold."""
    found = []
    for more in lists:
        left = open_rows(more)
        if left is not None:
            found.append(RoomBreak(rows + left, fit))
    return found


def inside_breaks(code):
    """The breaks of inside."""
    classes = class_ends(code) + bare_ends(code)
    found = [RoomBreak(end.rows, one_row(TOLD)) for end in classes if end.number is None]
    return found + [RoomBreak(end.rows, None) for end in ask_ends(code) if end.number is None]


def safe_breaks(code):
    """The breaks of safe: a page is offered without a look, and the length is above its fit."""
    found = []
    asks = [end for end in done_ends(ask_ends(code)) if not end.is_looking]
    for entry in done_ends(class_ends(code)):
        for asked in asks:
            lists = not_below(entry.number, asked.number, code.top)
            for pair in told_pairs(code):
                apart = added(one_row(LENGTH, 1, -1), pair.least, -code.rules.unit)
                found.extend(joined(entry.rows + asked.rows + pair.rows + [apart], lists, pair.least))
    return found


def found_breaks(code):
    """The breaks of found: a page is not offered, and the length and waste together are not above its fit."""
    found = []
    asks = done_ends(ask_ends(code))
    for entry in done_ends(class_ends(code)):
        for asked in asks:
            lists = below(entry.number, asked.number, code.top)
            for pair in told_pairs(code):
                apart = added(one_row(LENGTH, -1, -code.waste), pair.greatest, code.rules.unit)
                found.extend(joined(entry.rows + asked.rows + pair.rows + [apart], lists, pair.greatest))
    return found


def whole_breaks(code):
    """The breaks of whole: a page that was just made is not offered."""
    found = []
    asks = done_ends(ask_ends(code))
    full = full_units(code.rules)
    for entry in done_ends(class_ends(code)):
        for asked in asks:
            lists = below(entry.number, asked.number, code.top)
            found.extend(joined(entry.rows + asked.rows + [minus(one_row(TOLD), full)], lists, full))
    return found


FINDERS = {"inside": inside_breaks, "safe": safe_breaks, "found": found_breaks, "whole": whole_breaks}


def distinct(breaks):
    """Breaks without those whose rows came up before."""
    found = {}
    for one in breaks:
        rows = tuple(one.rows)
        if rows not in found:
            found[rows] = one
    return list(found.values())


def breaks_of(code, promise):
    """The breaks of a promise, each once."""
    if ("breaks", promise) not in code.answers:
        finder = FINDERS[promise]
        code.answers[("breaks", promise)] = distinct(finder(code))
    return code.answers[("breaks", promise)]
