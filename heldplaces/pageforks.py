"""Where ways through a page code fork: at comparisons, and at what only some cases have."""

from heldplaces.pagenames import BELOW, SLOTS, number_row, one_row
from heldplaces.pagestarts import branch, number_rows
from heldplaces.searching import can_hold
from heldplaces.wholerows import added, is_constant, minus, negated, times_row, with_more


def narrowed(way, rows, equals=()):
    """The way for the cases for which these hold as well, or None if there is none."""
    found = branch(way, rows, equals)
    return found if can_hold(found.equals, found.rows) else None


def fork_at(way, row):
    """The ways on which a row is 0 or more, and on which it is not; None for a way without cases.

    A row that holds anyway is not put to a way, so that its rows stay few.
    """
    if is_constant(row):
        return (way, None) if row[-1] >= 0 else (None, way)
    fails = narrowed(way, [negated(row)])
    if fails is None:
        return way, None
    return narrowed(way, [row]), fails


def fork_equal(way, row):
    """The ways on which a row is 0 (or None), and the list of those on which it is not."""
    if is_constant(row):
        return (way, []) if row[-1] == 0 else (None, [way])
    sides = [narrowed(way, [with_more(row, -1)]), narrowed(way, [with_more(times_row(row, -1), -1)])]
    others = [side for side in sides if side is not None]
    if not others:
        return way, []
    return narrowed(way, [], [row]), others


def fork_empty(way):
    """The ways on which some slot is empty, and on which none is. Only put asks for it."""
    told = way.marks["empties"]
    if told is not None:
        return (way, None) if told else (None, way)
    if way.marks["others"][0]:
        there, full = [one_row(SLOTS, 1, -2)], [added(one_row(BELOW), one_row(SLOTS), -1)]
    else:
        there, full = [one_row(SLOTS, 1, -1)], [one_row(SLOTS, -1)]
    found = []
    for rows, mark in ((there, True), (full, False)):
        side = narrowed(way, rows)
        if side is not None:
            side.marks["empties"] = mark
        found.append(side)
    return found[0], found[1]


def numbered(way, kind):
    """The way with what the number of own's slot keeps to."""
    if way.marks["is_numbered"]:
        return way
    found = branch(way, number_rows(way, kind))
    found.marks["is_numbered"] = True
    return found


def last_row(way):
    """The row that is 0 exactly if own is last."""
    return minus(way.forms["number"], one_row(SLOTS, 1, way.marks["delta"] - 1))


def slots_row(way):
    """The number of slots at the moment."""
    return one_row(SLOTS, 1, way.marks["delta"])


def edge_row(way, rules):
    """The first byte behind the directory at the moment."""
    return with_more(times_row(slots_row(way), rules.slot), rules.head)


def name_form(way, rules, name):
    """What a name stands for at the moment, or None."""
    if name in way.forms:
        return way.forms[name]
    if name == "slots":
        return slots_row(way)
    if name == "edge":
        return edge_row(way, rules)
    fixed = {"head": rules.head, "slot": rules.slot, "unit": rules.unit}
    return number_row(fixed[name])


def term_form(way, rules, term):
    """What a term of a sum stands for, or None."""
    return number_row(term) if isinstance(term, int) else name_form(way, rules, term)


def sum_form(way, rules, terms):
    """What a sum stands for, or None if it reads what there is not."""
    total = number_row(0)
    for sign, term in terms:
        form = term_form(way, rules, term)
        if form is None:
            return None
        total = added(total, form, sign)
    return total


def compare_ways(way, rules, part):
    """The lists of the ways on which a comparison holds, and does not; None where it is beyond."""
    left, right = term_form(way, rules, part[2]), term_form(way, rules, part[3])
    if left is None or right is None:
        return None
    apart = minus(right, left)
    if part[1] == "is":
        same, others = fork_equal(way, apart)
        return ([] if same is None else [same]), others
    holds, fails = fork_at(way, apart if part[1] == "<=" else with_more(apart, -1))
    return ([] if holds is None else [holds]), ([] if fails is None else [fails])


def part_ways(way, code, part):
    """The lists of the ways on which a part of a test holds, and does not; None where it is beyond."""
    if part[1] == "empty":
        holds, fails = fork_empty(way)
        sides = ([] if holds is None else [holds]), ([] if fails is None else [fails])
    elif part[1] == "last":
        if way.forms["number"] is None:
            return None
        found = numbered(way, code.kind)
        same, others = fork_equal(found, last_row(found))
        sides = ([] if same is None else [same]), others
    else:
        sides = compare_ways(way, code.rules, part)
    if sides is None or part[0]:
        return sides
    return sides[1], sides[0]


def test_ways(way, code, parts):
    """The ways on which a test holds, those on which it does not, and those on which it is beyond."""
    holding, failing, beyond = [way], [], []
    for part in parts:
        ahead = []
        for one in holding:
            sides = part_ways(one, code, part)
            if sides is None:
                beyond.append(one)
                continue
            ahead.extend(sides[0])
            failing.extend(sides[1])
        holding = ahead
    return holding, failing, beyond
