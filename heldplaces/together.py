"""At which sizes whole programs are right."""

from heldplaces.bookverdicts import book_is_right
from heldplaces.deedplay import PROMISES
from heldplaces.deedverdicts import deed_kept, needs
from heldplaces.errors import BadCount, BadSize
from heldplaces.idverdicts import MOST_NUMBER, least_gives, next_id_break
from heldplaces.pagerules import check_size
from heldplaces.pageverdicts import next_passing, next_wrong_size, page_is_right
from heldplaces.roomverdicts import room_next_wrong
from heldplaces.slotcounts import count_slots
from heldplaces.store import is_book_size, is_page_size

ID_PROMISES = ("inside", "own", "stale", "unlike", "none")
ROOM_PROMISES = ("inside", "safe")


def page_rules(program):
    """The page rules of a program."""
    return program.page_codes[0].rules


def check_page_size(program, size):
    """A page size is one in use, at most most."""
    if not is_page_size(page_rules(program), size):
        raise BadSize(size)


def check_places(program, places):
    """A size of the book is one in use."""
    if not is_book_size(program.book_codes[0].rules, places):
        raise BadCount(places)


def most_slots(program, size):
    """How many slots come up on pages of a size."""
    check_page_size(program, size)
    return count_slots(program.page_codes[0], size)


def good_gives(program, size):
    """How many gives are good before a stale id can be accepted; None if there is no end, or no slot."""
    slots = most_slots(program, size)
    if slots == 0:
        return None
    found = least_gives(program.ids, "stale", program.most_pages, min(slots, MOST_NUMBER))
    return None if found is None else found - 1


def are_deeds_right(program):
    """Whether all deeds keep all their promises."""
    return all([deed_kept(code) == PROMISES for code in program.deeds])


def is_book_right(program, places):
    """Whether all book codes are right at a size of the book."""
    return all([book_is_right(code, places) for code in program.book_codes])


def asked_of_ids(program):
    """The promises that ids have to keep."""
    asked = ("inside", "none") + needs(program.deeds, program.outside)
    return [promise for promise in ID_PROMISES if promise in asked]


def find_wrong_slots(program):
    """The least number of slots with which ids do not keep a promise that they have to keep, or None."""
    found = [next_id_break(program.ids, promise, program.most_pages, 1) for promise in asked_of_ids(program)]
    told = [many for many in found if many is not None]
    return min(told) if told else None


def first_wrong_slots(program):
    """The least number of slots with which ids are wrong, or None. It is found once."""
    if "slots" not in program.answers:
        program.answers["slots"] = find_wrong_slots(program)
    return program.answers["slots"]


def are_ids_right(program, size):
    """Whether ids keep what they have to keep, with all numbers of slots that come up on pages of a size."""
    slots = most_slots(program, size)
    if slots == 0:
        return True
    first = first_wrong_slots(program)
    return first is None or slots < first


def are_rooms_right(program, size):
    """Whether the room code keeps inside and safe at a size."""
    return all([room_next_wrong(program.room_code, promise, size) != size for promise in ROOM_PROMISES])


def wrong_parts(program, size, places):
    """The names of the parts that are not as they have to be."""
    check_page_size(program, size)
    check_places(program, places)
    rights = {
        "deeds": are_deeds_right(program),
        "pages": all([page_is_right(code, size) for code in program.page_codes]),
        "ids": are_ids_right(program, size),
        "rooms": are_rooms_right(program, size),
        "book": is_book_right(program, places),
    }
    return tuple([part for part in rights if not rights[part]])


def program_is_right(program, size, places):
    """Whether a program is right at a page size and a size of its book."""
    return not wrong_parts(program, size, places)


def wrong_sizes_from(program, size):
    """For each part that hangs on the page size the least one from a size on at which it is wrong, or None."""
    found = [next_wrong_size(code, size) for code in program.page_codes]
    found.extend([room_next_wrong(program.room_code, promise, size) for promise in ROOM_PROMISES])
    first = first_wrong_slots(program)
    if first is not None:
        found.append(next_passing(program.page_codes[0], first - 1, size))
    return found


def next_wrong_program(program, size, places):
    """The least page size from one on at which a program is not right, or None."""
    check_size(size)
    check_places(program, places)
    if not are_deeds_right(program) or not is_book_right(program, places):
        found = [page_rules(program).next_in_use(size)]
    else:
        found = wrong_sizes_from(program, size)
    told = [one for one in found if one is not None]
    least = min(told) if told else None
    return least if least is not None and is_page_size(page_rules(program), least) else None
