"""What the lines of page codes do to a page. Each step tells whether the play is not beyond."""

from heldplaces.codelines import step_on
from heldplaces.pagedesk import edge_of, held_slots, least_empty, own_room, sum_value, test_holds
from heldplaces.pagerules import round_up


def play_set(desk, form):
    """R = SUM"""
    total = sum_value(desk, form[2])
    if total is None:
        return False
    desk.registers[form[1]] = total
    return True


def play_divide(desk, form):
    """R = SUM // D"""
    total = sum_value(desk, form[2])
    if total is None:
        return False
    desk.registers[form[1]] = total // form[3]
    return True


def play_room(desk, form):
    """R = room len, R = room own.len"""
    room = round_up(desk.length, desk.rules.unit) if form[2] == "len" else own_room(desk)
    if room is None:
        return False
    desk.registers[form[1]] = room
    return True


def may_be(desk, number, least):
    """Whether a field, own.at or own.len may be set to a number."""
    if number is None or number < least:
        return False
    return desk.rules.most is None or number <= desk.rules.most


def play_field(desk, form):
    """low = SUM, holes = SUM"""
    total = sum_value(desk, form[2])
    if not may_be(desk, total, 0):
        return False
    if form[1] == "low":
        desk.low = total
    else:
        desk.holes = total
    desk.is_changed = True
    return True


def play_slots(desk, form):
    """slots = slots + 1, slots = slots - 1"""
    slots = desk.slots + form[1]
    if not may_be(desk, slots, 0):
        return False
    if slots < desk.slots and desk.own != slots:
        desk.ats.pop(slots, None)
        desk.lens.pop(slots, None)
    desk.slots = slots
    desk.is_changed = True
    return True


def play_take(desk, form):
    """take empty, take next"""
    own = least_empty(desk) if form[1] == "empty" else desk.slots
    if own is None:
        return False
    desk.own = own
    desk.is_changed = True
    return True


def play_clear(desk, form):
    """clear own"""
    desk.ats.pop(desk.own, None)
    desk.lens.pop(desk.own, None)
    desk.is_changed = True
    return True


def play_own(desk, form):
    """own.at = SUM, own.len = SUM"""
    total = sum_value(desk, form[2])
    if desk.own is None or not may_be(desk, total, 0 if form[1] == "own.at" else 1):
        return False
    if form[1] == "own.at":
        desk.ats[desk.own] = total
    else:
        desk.lens[desk.own] = total
    desk.is_changed = True
    return True


def play_pack(desk, form):
    """All records of the directory are moved together at the far end, in the order of their at."""
    end = desk.size
    rows = sorted([(desk.ats[slot], slot) for slot in held_slots(desk)], reverse=True)
    for _, slot in rows:
        end = end - round_up(desk.lens[slot], desk.rules.unit)
        desk.ats[slot] = end
    desk.is_changed = True
    return True


def spoilt_by(desk, start, end):
    """What is spoilt by writing the bytes from start to end: slots of records, -1 for the directory."""
    found = [-1] if start < edge_of(desk) else []
    for slot in held_slots(desk):
        at = desk.ats[slot]
        if slot != desk.own and at < end and start < at + desk.lens[slot]:
            found.append(slot)
    return tuple(found)


def play_lay(desk, form):
    """lay SUM"""
    start = sum_value(desk, form[1])
    if start is None or start < 0 or start + desk.length > desk.size:
        return False
    desk.spoilt = spoilt_by(desk, start, start + desk.length)
    desk.laid = start
    desk.is_changed = True
    return True


STEPS = {
    "set": play_set,
    "divide": play_divide,
    "room": play_room,
    "field": play_field,
    "slots": play_slots,
    "take": play_take,
    "clear": play_clear,
    "own": play_own,
    "pack": play_pack,
    "lay": play_lay,
}


def play_forms(forms, jumps, desk):
    """Plays the lines: the triple (how it ended, lines that were played, sides of tests)."""
    lines = []
    sides = []
    line = step_on(forms, jumps, 1)
    while line <= len(forms):
        form = forms[line - 1]
        lines.append(line)
        if form[0] in ("no", "quit"):
            return "refused" if form[0] == "no" else "done", lines, sides
        ahead = line + 1
        if form[0] == "if":
            side = test_holds(desk, form[1])
            if side is None:
                return "beyond", lines, sides
            sides.append((line, side))
            ahead = ahead if side else jumps[line]
        else:
            step = STEPS[form[0]]
            if not step(desk, form):
                return "beyond", lines, sides
        line = step_on(forms, jumps, ahead)
    return "done", lines, sides
