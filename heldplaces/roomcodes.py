"""Room texts, and room codes: page rules with a text for classes, one for asking, and some numbers."""

from heldplaces.codelines import read_code
from heldplaces.errors import BadKind, BadRule, OtherFactors, OtherKinds, Refused, TooMany
from heldplaces.idlimits import go_together
from heldplaces.roomlimits import least_refused
from heldplaces.roomlines import READERS
from heldplaces.values import is_between

KINDS = ("class", "ask")
WHENS = ("behind", "ahead")
MOST_LINES = 20
MOST_IFS = 4
MOST_TOP = 64
MOST_NUMBER = 999999999999999999999999999999


class RoomText:
    """A room text of a kind."""

    def __init__(self, kind, text):
        if kind not in KINDS:
            raise BadKind(kind)
        reader = READERS[kind]
        rows, forms, jumps = read_code(text, reader, MOST_LINES, MOST_IFS)
        line = least_refused(forms, jumps)
        if line is not None:
            raise Refused(line)
        self.kind = kind
        self.text = text
        self.rows = tuple(rows)
        self.forms = tuple(forms)
        self.jumps = jumps

    def __len__(self):
        return len(self.rows)

    def __getitem__(self, number):
        return self.rows[number - 1]

    def __iter__(self):
        raise TypeError("a code is not iterated over")

    def __eq__(self, other):
        if not isinstance(other, RoomText):
            return False
        return self.kind == other.kind and self.text == other.text


def divisors_of(forms):
    """The numbers by which lines divide."""
    return [form[3] for form in forms if form[0] == "divide"]


def has_bits(forms):
    """Whether some line asks for bits."""
    return any([form[0] == "bits" for form in forms])


class RoomCode:
    """A room code. Verdicts about it are kept in `answers`, so that each is found once."""

    def __init__(self, rules, top, classes, asks, fall=0, rise=0, when="behind", waste=0):
        for what, value in (("top", top), ("fall", fall), ("rise", rise), ("waste", waste)):
            if not is_between(value, 0, MOST_NUMBER):
                raise BadRule(what)
        if when not in WHENS:
            raise BadRule("when")
        if classes.kind != "class" or asks.kind != "ask":
            raise OtherKinds("rooms")
        if top > MOST_TOP and has_bits(classes.forms + asks.forms):
            raise TooMany("classes", top, MOST_TOP)
        if not go_together([rules.unit] + divisors_of(classes.forms + asks.forms)):
            raise OtherFactors()
        self.rules = rules
        self.top = top
        self.classes = classes
        self.asks = asks
        self.fall = fall
        self.rise = rise
        self.when = when
        self.waste = waste
        self.answers = {}

    def __eq__(self, other):
        if not isinstance(other, RoomCode):
            return False
        return (self.rules == other.rules and self.top == other.top and self.classes == other.classes
                and self.asks == other.asks and self.fall == other.fall and self.rise == other.rise
                and self.when == other.when and self.waste == other.waste)
