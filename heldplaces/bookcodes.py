"""Book codes: texts that note calls, and take back and do again groups of them."""

from heldplaces.booklimits import least_refused
from heldplaces.booklines import read_book_line
from heldplaces.codelines import read_code
from heldplaces.errors import BadKind, Refused

KINDS = ("note", "fail", "undo", "redo")
MOST_LINES = 30
MOST_IFS = 6


class BookCode:
    """A book code of a kind. Verdicts about it are kept in `answers`, so that each is found once."""

    def __init__(self, kind, rules, text):
        if kind not in KINDS:
            raise BadKind(kind)
        rows, forms, jumps = read_code(text, read_book_line, MOST_LINES, MOST_IFS)
        line = least_refused(kind, forms, jumps)
        if line is not None:
            raise Refused(line)
        self.kind = kind
        self.rules = rules
        self.text = text
        self.rows = tuple(rows)
        self.forms = tuple(forms)
        self.jumps = jumps
        self.answers = {}

    def __len__(self):
        return len(self.rows)

    def __getitem__(self, number):
        return self.rows[number - 1]

    def __iter__(self):
        raise TypeError("a code is not iterated over")

    def __eq__(self, other):
        if not isinstance(other, BookCode):
            return False
        return self.kind == other.kind and self.rules == other.rules and self.text == other.text
