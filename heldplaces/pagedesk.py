"""A page while a page code is played on it, and what its sums and tests see."""

from heldplaces.pagerules import round_up


class PageDesk:
    """A page at a moment of a play. It need not be right: a store plays codes on whatever page it has."""

    def __init__(self, rules, page, holes, own, length):
        self.rules = rules
        self.size = page[0]
        self.low = page[1]
        self.holes = holes
        self.slots = len(page[2])
        self.ats = {}
        self.lens = {}
        for slot, record in enumerate(page[2]):
            if record is not None:
                self.ats[slot] = record[0]
                self.lens[slot] = record[1]
        self.own = own
        self.length = length
        self.registers = {"a": 0, "b": 0, "c": 0}
        self.laid = None
        self.spoilt = ()
        self.is_changed = False


def edge_of(desk):
    """The first byte behind the directory."""
    return desk.rules.head + desk.rules.slot * desk.slots


def has_record(desk, slot):
    """Whether a slot has both an at and a length."""
    return slot in desk.ats and slot in desk.lens


def held_slots(desk):
    """The numbers of the slots of the directory that have records, ascending."""
    return [slot for slot in range(desk.slots) if has_record(desk, slot)]


def least_empty(desk):
    """The least empty slot of the directory, or None."""
    for slot in range(desk.slots):
        if not has_record(desk, slot):
            return slot
    return None


def row_of(desk):
    """The row of the directory."""
    held = [has_record(desk, slot) for slot in range(desk.slots)]
    return tuple([(desk.ats[slot], desk.lens[slot]) if holds else None for slot, holds in enumerate(held)])


def is_written(desk):
    """Whether own's slot has an at, the byte from which lay wrote."""
    return desk.own is not None and desk.laid is not None and desk.ats.get(desk.own) == desk.laid


def own_room(desk):
    """The room of own's length; None where there is none."""
    length = desk.lens.get(desk.own)
    return None if length is None else round_up(length, desk.rules.unit)


def name_value(desk, name):
    """What a name of a sum is at the moment; None for own's at and len where own has not got it."""
    if name in desk.registers:
        return desk.registers[name]
    rules = desk.rules
    if name == "own.at":
        return desk.ats.get(desk.own)
    if name == "own.len":
        return desk.lens.get(desk.own)
    seen = {
        "size": desk.size,
        "head": rules.head,
        "slot": rules.slot,
        "unit": rules.unit,
        "slots": desk.slots,
        "low": desk.low,
        "holes": desk.holes,
        "edge": edge_of(desk),
        "len": desk.length,
    }
    return seen[name]


def term_value(desk, term):
    """What a term of a sum is at the moment, or None."""
    return term if isinstance(term, int) else name_value(desk, term)


def sum_value(desk, terms):
    """What a sum is at the moment; None if it reads what there is not."""
    total = 0
    for sign, term in terms:
        value = term_value(desk, term)
        if value is None:
            return None
        total = total + sign * value
    return total


def compare(left, sign, right):
    """Whether a comparison of two numbers holds."""
    if sign == "<":
        return left < right
    if sign == "<=":
        return left <= right
    return left == right


def part_holds(desk, part):
    """Whether a part of a test holds; None where it is beyond."""
    wanted, sign, left, right = part
    if sign == "empty":
        return (least_empty(desk) is not None) == wanted
    if sign == "last":
        return None if desk.own is None else (desk.own == desk.slots - 1) == wanted
    first, second = term_value(desk, left), term_value(desk, right)
    if first is None or second is None:
        return None
    return compare(first, sign, second) == wanted


def test_holds(desk, parts):
    """Whether a test holds; None where the play goes beyond."""
    for part in parts:
        holds = part_holds(desk, part)
        if not holds:
            return holds
    return True
