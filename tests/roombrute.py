"""All sizes up to some bound, all fits, told fits and lengths: the plain way to ask room codes."""

from heldplaces.roomplay import play_room, room_full, room_tells

PROMISES = ("inside", "safe", "found", "whole")


def pairs(code, size):
    """All pairs (fit, told) to which rows of fits lead."""
    fits = range(0, room_full(code.rules, size) + 1, code.rules.unit)
    start = (fits[-1], fits[-1])
    found, work = {start}, [start]
    while work:
        fit, told = work.pop()
        for ahead in fits:
            news = room_tells(code, size, fit, ahead)
            pair = (ahead, told if news is None else news)
            if pair not in found:
                found.add(pair)
                work.append(pair)
    return found


def breaks(code, promise, size, fit, told, length, classes, asks):
    """Whether a fit, a told fit and a length break one of the last three promises."""
    entry, asked = classes[told], asks[length]
    if entry.ended == "beyond" or asked.ended == "beyond":
        return False
    if promise == "safe":
        return entry.number >= asked.number and not asked.is_looking and length > fit
    if promise == "found":
        return length + code.waste <= fit and entry.number < asked.number
    return told == fit == room_full(code.rules, size) and entry.number < asked.number


def broken(code, size):
    """The promises that are broken at a size in use."""
    full = room_full(code.rules, size)
    classes = {fit: play_room(code, "class", size, fit) for fit in range(0, full + 1, code.rules.unit)}
    asks = {length: play_room(code, "ask", size, length) for length in range(1, full + 1)}
    found = []
    if any(play.ended == "beyond" for play in list(classes.values()) + list(asks.values())):
        found.append("inside")
    some = pairs(code, size)
    for promise in PROMISES[1:]:
        if any(breaks(code, promise, size, fit, told, length, classes, asks) for fit, told in some for length in asks):
            found.append(promise)
    return found


def is_case(code, promise, case):
    """Whether a case breaks a promise."""
    size, fit, told, length = case
    if promise == "inside":
        assert told is None and (fit is None) != (length is None)
        kind, number = ("ask", length) if fit is None else ("class", fit)
        return play_room(code, kind, size, number).ended == "beyond"
    if promise == "whole" and not told == fit == room_full(code.rules, size):
        return False
    if (fit, told) not in pairs(code, size):
        return False
    classes, asks = {told: play_room(code, "class", size, told)}, {length: play_room(code, "ask", size, length)}
    return breaks(code, promise, size, fit, told, length, classes, asks)
