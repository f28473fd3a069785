"""Plays of page codes on page cases."""

from heldplaces.errors import BadHanded, BadPage
from heldplaces.pagedesk import PageDesk, is_written, row_of
from heldplaces.pagepromises import broken_promises, handed_length, handed_own
from heldplaces.pagesteps import play_forms
from heldplaces.rightpages import is_handed, is_right_page, rooms_of


class PagePlay:
    """How a play ended, and what it left."""

    def __init__(self, ended, desk, lines, sides, broken):
        self.ended = ended
        self.row = row_of(desk)
        self.slots = desk.slots
        self.low = desk.low
        self.holes = desk.holes
        self.own = desk.own
        self.written = is_written(desk)
        self.spoilt = desk.spoilt
        self.broken = broken
        self.played = tuple(lines)
        self.tested = tuple(sides)

    def lines(self):
        """The numbers of the lines that were played, ascending."""
        return self.played

    def sides(self):
        """The pairs (line, side) of the tests that came out, ascending."""
        return self.tested


def play_page(code, page, handed=None):
    """Plays a page code on a page case."""
    rules = code.rules
    if not is_right_page(rules, page):
        raise BadPage(page)
    size, low, row = page
    if not is_handed(code.kind, row, handed):
        raise BadHanded(handed)
    own, length = handed_own(code.kind, handed), handed_length(code.kind, handed)
    desk = PageDesk(rules, page, size - low - rooms_of(rules, row), own, length)
    ended, lines, sides = play_forms(code.forms, code.jumps, desk)
    broken = broken_promises(code.kind, rules, page, handed, desk, ended)
    return PagePlay(ended, desk, lines, sides, broken)
