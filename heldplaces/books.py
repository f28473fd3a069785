"""Books: rings of rows, in which the four book codes note, take back and do again groups of calls."""

from heldplaces.bookcases import fields_of, is_book_case, seals_of
from heldplaces.bookcodes import KINDS, BookCode
from heldplaces.bookdesk import BookDesk, play_forms, told_fields_of
from heldplaces.errors import BadCase, BadSize, Broken, OtherKinds, OtherRules
from heldplaces.values import is_from


def are_book_codes(codes):
    """Whether a value is a list of a book code of each kind, in order."""
    if not isinstance(codes, (list, tuple)) or len(codes) != len(KINDS):
        return False
    return all([isinstance(code, BookCode) and code.kind == kind for code, kind in zip(codes, KINDS)])


def have_equal_rules(codes):
    """Whether all codes have equal rules."""
    return all([code.rules == codes[0].rules for code in codes])


def check_case(codes, case):
    """A book begins at a case of its first code."""
    if not isinstance(codes, (list, tuple)) or not codes or not isinstance(codes[0], BookCode):
        raise OtherKinds("book")
    if not is_book_case(codes[0].rules, codes[0].kind, case):
        raise BadCase(case)


def play_in(book, kind):
    """Plays the code of a kind in a book: how it ended, and the desk that it left."""
    if book.broken is not None:
        raise Broken(book.broken)
    desk = BookDesk(book.size, book.keep, book.fields, book.seals)
    ended = play_forms(book.codes[kind], desk)
    book.fields = told_fields_of(desk)
    book.seals = dict(desk.seals)
    if ended == "beyond":
        book.broken = kind
    return ended, desk


def things_at(book, places):
    """The values of the rows at places, None where no row was written yet."""
    return [book.things.get(place) for place in places]


def fill_book(book, case):
    """Puts a case into an empty book."""
    size, place, done, more, own = case
    book.fields = fields_of(case)
    book.seals = seals_of(case)
    many = sum(done) + own
    for k in range(many + sum(more)):
        book.things[(place - many + k) % size] = k


class Book:
    """A book of a size. Rows have values of any kind; things are those that were written last, by place."""

    def __init__(self, codes, size):
        if not are_book_codes(codes):
            raise OtherKinds("book")
        if not have_equal_rules(codes):
            raise OtherRules("book")
        rules = codes[0].rules
        if not is_from(size, 1) or not rules.in_use(size):
            raise BadSize(size)
        self.codes = dict(zip(KINDS, codes))
        self.size = size
        self.keep = rules.kept_rows(size)
        self.fields = (0, 0, 0, 0, 0)
        self.seals = {}
        self.things = {}
        self.broken = None

    @classmethod
    def book_at(cls, codes, case):
        """A book at a case for note, whose rows have the values 0, 1, 2, .. from the oldest one on."""
        check_case(codes, case)
        book = cls(codes, case[0])
        fill_book(book, case)
        return book

    def note(self, thing):
        """Notes a row with a value; False if it is refused."""
        ended, desk = play_in(self, "note")
        for place in desk.written:
            self.things[place] = thing
        return ended != "refused"

    def close(self):
        """Closes the open group: its length is sealed on its first row and on its last one."""
        if self.broken is not None:
            raise Broken(self.broken)
        place, many, more, own, _ = self.fields
        if own > 0:
            self.seals[(place - own) % self.size] = own
            self.seals[(place - 1) % self.size] = own
            self.fields = (place, many, more, 0, place)

    def fail(self):
        """Takes the open group back: the values of its rows, or None if that is refused."""
        ended, desk = play_in(self, "fail")
        return None if ended == "refused" else things_at(self, desk.back)

    def undo(self):
        """Takes the latest group back: the values of its rows, or None if that is refused, or a group is open."""
        if self.broken is None and self.fields[3] != 0:
            return None
        ended, desk = play_in(self, "undo")
        return None if ended == "refused" else things_at(self, desk.back)

    def redo(self):
        """Does the first undone group again: the values of its rows, or None as for undo."""
        if self.broken is None and self.fields[3] != 0:
            return None
        ended, desk = play_in(self, "redo")
        return None if ended == "refused" else things_at(self, desk.again)

    def told_fields(self):
        """The fields (next, many, more, own, mark)."""
        return self.fields
