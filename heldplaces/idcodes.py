"""Id codes: texts that give ids, free places and look at ids."""

from heldplaces.codelines import read_code
from heldplaces.errors import BadKind, Refused
from heldplaces.idlimits import least_refused
from heldplaces.idlines import READERS

KINDS = ("give", "free", "look")
MOST_LINES = 30
MOST_IFS = 5


class IdCode:
    """An id code of a kind."""

    def __init__(self, kind, text):
        if kind not in KINDS:
            raise BadKind(kind)
        reader = READERS[kind]
        rows, forms, jumps = read_code(text, reader, MOST_LINES, MOST_IFS)
        line = least_refused(kind, forms, jumps)
        if line is not None:
            raise Refused(line)
        self.kind = kind
        self.text = text
        self.rows = tuple(rows)
        self.forms = tuple(forms)
        self.jumps = jumps

    def __len__(self):
        return len(self.rows)

    def __getitem__(self, number):
        return self.rows[number - 1]

    def __iter__(self):
        raise TypeError("a code is not iterated over")

    def __eq__(self, other):
        if not isinstance(other, IdCode):
            return False
        return self.kind == other.kind and self.text == other.text
