"""For which sizes, of all there are, a book code keeps its promises."""

from heldplaces.bookleast import case_of, fixed
from heldplaces.booknames import ROWS, SIZE
from heldplaces.bookplay import PROMISES
from heldplaces.bookways import find_breaks
from heldplaces.errors import BadPromise
from heldplaces.pagecases import value_at
from heldplaces.pagerules import check_size
from heldplaces.searching import Search, can_hold, found_stretches, search_rows
from heldplaces.stretches import is_in, next_free, next_of, regions_of, simple_stretches


def check_promise(promise):
    """A promise is one of the four words."""
    if promise not in PROMISES:
        raise BadPromise(promise)


def breaks_of(code, promise):
    """The breaks of a promise, each once."""
    if "breaks" not in code.answers:
        found = {}
        breaks = find_breaks(code).breaks
        for word in PROMISES:
            found[word] = list({tuple(sorted(one.rows)): one for one in breaks[word]}.values())
        code.answers["breaks"] = found
    return code.answers["breaks"][promise]


def broken_sizes(code, promise):
    """The stretches of sizes at which a promise is broken."""
    if promise not in code.answers:
        search = Search("all")
        for one in breaks_of(code, promise):
            search_rows(search, [], one.rows)
        code.answers[promise] = simple_stretches(found_stretches(search))
    return code.answers[promise]


def wrong_stretches(code):
    """The stretches of sizes at which some promise is broken."""
    if "wrong" not in code.answers:
        found = []
        for promise in PROMISES:
            found.extend(broken_sizes(code, promise))
        code.answers["wrong"] = simple_stretches(found)
    return code.answers["wrong"]


def wrong_regions(code):
    """The regions of sizes of a code."""
    if "regions" not in code.answers:
        code.answers["regions"] = regions_of(wrong_stretches(code))
    return code.answers["regions"]


def book_keeps(code, promise):
    """Whether a promise is kept at all sizes."""
    check_promise(promise)
    if promise in code.answers:
        return not broken_sizes(code, promise)
    return not any([can_hold([], one.rows) for one in breaks_of(code, promise)])


def book_kept(code):
    """The promises that are kept at all sizes, in their order."""
    return tuple([promise for promise in PROMISES if book_keeps(code, promise)])


def fewest_rows(found, size):
    """The fewest rows of the cases of a break that have a size; None if there are none."""
    return value_at([fixed(SIZE, size)], found.rows, ROWS, "least")


def least_book_case(code, promise):
    """A case of the least size, and there with the fewest rows, that breaks a promise; None if it is kept."""
    check_promise(promise)
    size = next_of(broken_sizes(code, promise), 1)
    if size is None:
        return None
    best, least = None, None
    for found in breaks_of(code, promise):
        rows = fewest_rows(found, size)
        if rows is not None and (least is None or rows < least):
            best, least = found, rows
    return case_of(best, size, least)


def book_is_right(code, size):
    """Whether no promise is broken at a size."""
    check_size(size)
    return not is_in(wrong_stretches(code), size)


def next_wrong_book(code, size):
    """The least size in use from one on at which a code is not right, or None."""
    check_size(size)
    return next_of(wrong_stretches(code), size)


def next_right_book(code, size):
    """The least size in use from one on at which a code is right, or None."""
    check_size(size)
    start = code.rules.next_in_use(size)
    if start is None:
        return None
    found = next_free(wrong_regions(code), start)
    return found if found is not None and code.rules.in_use(found) else None
