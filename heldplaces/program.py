"""Programs: a code of each kind for each part of a store."""

from heldplaces.books import are_book_codes, have_equal_rules
from heldplaces.deedverdicts import are_deeds
from heldplaces.errors import BadNumber, OtherKinds, OtherRules
from heldplaces.pagecodes import PageCode
from heldplaces.values import is_between

PAGE_KINDS = ("put", "strike", "set")
MOST_PAGES = 200


def are_page_codes(codes):
    """Whether a value is a list of page codes for put, strike and set, in order."""
    if not isinstance(codes, (list, tuple)) or len(codes) != len(PAGE_KINDS):
        return False
    return all([isinstance(code, PageCode) and code.kind == kind for code, kind in zip(codes, PAGE_KINDS)])


class Program:
    """A program. What is found about it is kept in `answers`, so that it is found once."""

    def __init__(self, page_codes, ids, room_code, deeds, book_codes, most_pages, outside=False):
        if not are_page_codes(page_codes):
            raise OtherKinds("pages")
        if not are_deeds(deeds):
            raise OtherKinds("deeds")
        if not are_book_codes(book_codes):
            raise OtherKinds("book")
        if not have_equal_rules(page_codes):
            raise OtherRules("pages")
        if not room_code.rules == page_codes[0].rules:
            raise OtherRules("rooms")
        if not have_equal_rules(book_codes):
            raise OtherRules("book")
        if not is_between(most_pages, 1, MOST_PAGES):
            raise BadNumber(most_pages)
        self.page_codes = tuple(page_codes)
        self.ids = ids
        self.room_code = room_code
        self.deeds = tuple(deeds)
        self.book_codes = tuple(book_codes)
        self.most_pages = most_pages
        self.outside = outside
        self.answers = {}
