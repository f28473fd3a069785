"""Plays of book codes on book cases."""

from heldplaces.bookcases import fields_of, is_book_case, owed_by, seals_of
from heldplaces.bookdesk import BookDesk, play_forms, told_fields_of
from heldplaces.errors import BadCase

PROMISES = ("inside", "rows", "fields", "full")


def breaks_done(desk, owed):
    """The promises that a play breaks that is done where something is owed."""
    rows = (tuple(desk.written), tuple(desk.back), tuple(desk.again))
    found = [] if rows == (owed.written, owed.back, owed.again) else ["rows"]
    return found if told_fields_of(desk) == owed.fields else found + ["fields"]


def broken_promises(desk, owed, ended):
    """The promises that a play breaks, in their order; owed is None where nothing is owed."""
    if ended == "beyond":
        return ("inside",)
    if ended == "refused":
        return ("full",) if owed is not None or desk.is_changed else ()
    return ("full",) if owed is None else tuple(breaks_done(desk, owed))


class BookPlay:
    """How a play ended, and what it left."""

    def __init__(self, ended, desk, broken):
        self.ended = ended
        self.fields = told_fields_of(desk)
        self.written = tuple(desk.written)
        self.back = tuple(desk.back)
        self.again = tuple(desk.again)
        self.seals = dict(desk.seals)
        self.broken = broken


def play_book(code, case):
    """Plays a book code on a book case."""
    if not is_book_case(code.rules, code.kind, case):
        raise BadCase(case)
    keep = code.rules.kept_rows(case[0])
    desk = BookDesk(case[0], keep, fields_of(case), seals_of(case))
    ended = play_forms(code, desk)
    return BookPlay(ended, desk, broken_promises(desk, owed_by(code.kind, case, keep), ended))
