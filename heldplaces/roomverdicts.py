"""For which sizes, of all there are, a room code keeps its promises."""

from heldplaces.errors import BadPromise, BadSize
from heldplaces.pagecases import form_value, value_at
from heldplaces.roombreaks import PROMISES, breaks_of
from heldplaces.roomnames import LENGTH, SIZE, TOLD, WIDTH, one_row
from heldplaces.searching import Search, can_hold, found_stretches, search_rows
from heldplaces.stretches import next_free, next_of, regions_of, simple_stretches
from heldplaces.values import is_from


def check_promise(promise):
    """A promise is one of the four words."""
    if promise not in PROMISES:
        raise BadPromise(promise)


def check_from(size):
    """Sizes from which on is asked are integers from 0 on."""
    if not is_from(size, 0):
        raise BadSize(size)


def broken_sizes(code, promise):
    """The stretches of sizes, in units, at which a promise is broken."""
    if promise not in code.answers:
        search = Search("all")
        for one in breaks_of(code, promise):
            search_rows(search, [], one.rows)
        code.answers[promise] = simple_stretches(found_stretches(search))
    return code.answers[promise]


def broken_regions(code, promise):
    """The regions of sizes, in units, of a promise."""
    if ("regions", promise) not in code.answers:
        code.answers[("regions", promise)] = regions_of(broken_sizes(code, promise))
    return code.answers[("regions", promise)]


def room_keeps(code, promise):
    """Whether a promise is kept at all sizes."""
    check_promise(promise)
    if promise in code.answers:
        return not broken_sizes(code, promise)
    return not any([can_hold([], one.rows) for one in breaks_of(code, promise)])


def room_kept(code):
    """The promises that are kept at all sizes, in their order."""
    return tuple([promise for promise in PROMISES if room_keeps(code, promise)])


def room_next_wrong(code, promise, size):
    """The least size in use from one on at which a promise is broken, or None."""
    check_promise(promise)
    check_from(size)
    unit = code.rules.unit
    found = next_of(broken_sizes(code, promise), -(-size // unit))
    return None if found is None else found * unit


def room_next_right(code, promise, size):
    """The least size in use from one on at which a promise is not broken, or None."""
    check_promise(promise)
    check_from(size)
    start = code.rules.next_in_use(max(size, 1))
    if start is None:
        return None
    units = next_free(broken_regions(code, promise), start // code.rules.unit)
    if units is None or not code.rules.in_use(units * code.rules.unit):
        return None
    return units * code.rules.unit


def fixed(name, value):
    """The equality of a name and a value."""
    return one_row(name, 1, -value)


def case_of(code, found, size):
    """The case of a break at a size, in units; None if it does not come up there."""
    equals = [fixed(SIZE, size)]
    if not can_hold(equals, found.rows):
        return None
    values = [0] * WIDTH
    values[SIZE] = size
    for name in (TOLD, LENGTH):
        values[name] = value_at(equals, found.rows, name, "one")
        equals.append(fixed(name, values[name]))
    return values


def room_case(code, promise):
    """A case (size, fit, told, length) of the least size that breaks a promise; None if it is kept."""
    check_promise(promise)
    size = next_of(broken_sizes(code, promise), 1)
    if size is None:
        return None
    unit = code.rules.unit
    for found in breaks_of(code, promise):
        values = case_of(code, found, size)
        if values is not None:
            if promise == "inside":
                if found.fit is None:
                    return (size * unit, None, None, values[LENGTH])
                return (size * unit, values[TOLD] * unit, None, None)
            return (size * unit, form_value(found.fit, values) * unit, values[TOLD] * unit, values[LENGTH])
    return None
