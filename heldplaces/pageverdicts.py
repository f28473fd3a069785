"""For which sizes, of all there are, a page code keeps its promises."""

from heldplaces.errors import BadCount, BadKind, BadPromise
from heldplaces.pagecases import case_of, fixed, value_at
from heldplaces.pageforks import numbered
from heldplaces.pagenames import SIZE, SLOTS
from heldplaces.pagepromises import PROMISES
from heldplaces.pagerules import check_size
from heldplaces.pageways import find_breaks
from heldplaces.searching import Search, can_hold, found_stretches, search_rows
from heldplaces.stretches import count_taken, is_in, next_free, next_of, regions_of, simple_stretches
from heldplaces.values import is_from
from heldplaces.wholerows import with_more


def findings_of(code):
    """What is found on all ways of a code."""
    if "findings" not in code.answers:
        code.answers["findings"] = find_breaks(code)
    return code.answers["findings"]


def searched(breaks):
    """The stretches of sizes, in units, of cases; each is a pair of equalities and rows."""
    search = Search("all")
    for equals, rows in breaks:
        search_rows(search, equals, rows)
    return simple_stretches(found_stretches(search))


def broken_sizes(code, promise):
    """The stretches of sizes, in units, at which a promise is broken."""
    if promise not in code.answers:
        breaks = findings_of(code).breaks[promise]
        code.answers[promise] = searched([(one.equals, one.rows) for one in breaks])
    return code.answers[promise]


def joined_lists(lists):
    """All items of lists, in one."""
    found = []
    for one in lists:
        found.extend(one)
    return found


def wrong_stretches(code):
    """The stretches of sizes, in units, at which some promise is broken."""
    if "wrong" not in code.answers:
        lists = [broken_sizes(code, promise) for promise in PROMISES]
        code.answers["wrong"] = simple_stretches(joined_lists(lists))
    return code.answers["wrong"]


def wrong_regions(code):
    """The regions of sizes, in units, of a code."""
    if "regions" not in code.answers:
        code.answers["regions"] = regions_of(wrong_stretches(code))
    return code.answers["regions"]


def check_promise(promise):
    """A promise is one of the six words."""
    if promise not in PROMISES:
        raise BadPromise(promise)


def units_from(code, size):
    """The least number of units that is not less than a size."""
    return -(-size // code.rules.unit)


def size_of(code, units):
    """A size of so many units; None stays None."""
    return None if units is None else units * code.rules.unit


def page_keeps(code, promise):
    """Whether a promise is kept at all sizes."""
    check_promise(promise)
    if promise in code.answers:
        return not broken_sizes(code, promise)
    for one in findings_of(code).breaks[promise]:
        if can_hold(one.equals, one.rows):
            return False
    return True


def page_kept(code):
    """The promises that are kept at all sizes, in their order."""
    return tuple([promise for promise in PROMISES if page_keeps(code, promise)])


def least_slots(found, size):
    """The fewest slots of the cases of a break that have a size, in units; None if there are none."""
    return value_at(list(found.equals) + [fixed(SIZE, size)], found.rows, SLOTS, "least")


def case_at(code, promise, size):
    """A case with the fewest slots that breaks a promise, of those that have a size in units at which one does."""
    best = None
    least = None
    for found in findings_of(code).breaks[promise]:
        slots = least_slots(found, size)
        if slots is not None and (least is None or slots < least):
            best = found
            least = slots
    return case_of(code, best, size, least)


def least_page_case(code, promise):
    """A case of the least size, and there with the fewest slots, that breaks a promise; None if it is kept."""
    check_promise(promise)
    size = next_of(broken_sizes(code, promise), 1)
    return None if size is None else case_at(code, promise, size)


def page_breaks(code, promise, size):
    """Whether a promise is broken at a size."""
    check_promise(promise)
    check_size(size)
    return size % code.rules.unit == 0 and is_in(broken_sizes(code, promise), size // code.rules.unit)


def next_page_break(code, promise, size):
    """The least size from one on at which a promise is broken, or None."""
    check_promise(promise)
    check_size(size)
    return size_of(code, next_of(broken_sizes(code, promise), units_from(code, size)))


def page_is_right(code, size):
    """Whether no promise is broken at a size."""
    check_size(size)
    return size % code.rules.unit != 0 or not is_in(wrong_stretches(code), size // code.rules.unit)


def next_right_size(code, size):
    """The least size in use from one on at which a code is right, or None."""
    check_size(size)
    start = code.rules.next_in_use(size)
    if start is None:
        return None
    found = size_of(code, next_free(wrong_regions(code), start // code.rules.unit))
    return found if found is not None and code.rules.in_use(found) else None


def next_wrong_size(code, size):
    """The least size from one on at which a code is not right, or None."""
    check_size(size)
    return size_of(code, next_of(wrong_stretches(code), units_from(code, size)))


def wrong_sizes(code, size):
    """At how many sizes from 1 to a size a code is not right."""
    check_size(size)
    return count_taken(wrong_regions(code), size // code.rules.unit)


def passing_stretches(code, many):
    """The stretches of sizes, in units, at which own gets a number that is many or more."""
    if ("passing", many) not in code.answers:
        ways = [numbered(way, code.kind) for way in findings_of(code).dones]
        cases = [(way.equals, way.rows + (with_more(way.forms["number"], -many),)) for way in ways]
        code.answers[("passing", many)] = searched(cases)
    return code.answers[("passing", many)]


def check_passing(code, many, size):
    """What is asked about numbers of slots is asked of codes for put."""
    if code.kind != "put":
        raise BadKind(code.kind)
    if not is_from(many, 0):
        raise BadCount(many)
    check_size(size)


def passes(code, many, size):
    """Whether own gets a number that is many or more, in some play that is done on a page of a size."""
    check_passing(code, many, size)
    return size % code.rules.unit == 0 and is_in(passing_stretches(code, many), size // code.rules.unit)


def next_passing(code, many, size):
    """The least size from one on at which own gets a number that is many or more, or None."""
    check_passing(code, many, size)
    return size_of(code, next_of(passing_stretches(code, many), units_from(code, size)))
