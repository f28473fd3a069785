"""Deeds: texts of steps over all parts of a store."""

from heldplaces.codelines import split_lines
from heldplaces.deedlines import OUTCOMES, line_behind, read_deed, step_on
from heldplaces.errors import BadKind, Refused, TooMany

KINDS = ("enter", "leave", "change")
MOST_LINES = 40
MOST_STEPS = 8
ONCE = ("lay", "stretch", "give")
NOT_FOR_LEAVE = ("lay", "stretch")


def way_lines(forms, blocks, line, met):
    """Goes on along a way from a line: the line of its next step with outcomes, and a line that breaks a limit.

    Either is 0 where there is none; met has the steps that may stand once, of those that the way has.
    """
    line = step_on(forms, blocks, line)
    while line <= len(forms) and forms[line - 1][0] != "quit":
        word = forms[line - 1][0]
        if word in met:
            return 0, line
        if word in OUTCOMES:
            return line, 0
        line = step_on(forms, blocks, line + 1)
    return 0, 0


def second_steps(forms, blocks):
    """The lines at which a way has a step once more that it may have once only."""
    found = []
    work = [(1, ())]
    while work:
        start, met = work.pop()
        line, broken = way_lines(forms, blocks, start, met)
        if broken:
            found.append(broken)
        if line:
            word = forms[line - 1][0]
            ahead = met + (word,) if word in ONCE else met
            behind = {line_behind(blocks, line, outcome): True for outcome in OUTCOMES[word]}
            work.extend([(one, ahead) for one in behind])
    return found


def least_refused(kind, forms, blocks):
    """The least line of a deed that breaks a limit, or None."""
    found = second_steps(forms, blocks)
    if kind == "leave":
        found = found + [at + 1 for at, form in enumerate(forms) if form[0] in NOT_FOR_LEAVE]
    return min(found) if found else None


class DeedCode:
    """A deed of a kind. Its plays are kept in `answers`, so that they are played once."""

    def __init__(self, kind, text):
        if kind not in KINDS:
            raise BadKind(kind)
        rows = split_lines(text)
        if len(rows) > MOST_LINES:
            raise TooMany("lines", len(rows), MOST_LINES)
        forms, blocks = read_deed(rows)
        steps = len([form for form in forms if form[0] in OUTCOMES])
        if steps > MOST_STEPS:
            raise TooMany("steps", steps, MOST_STEPS)
        line = least_refused(kind, forms, blocks)
        if line is not None:
            raise Refused(line)
        self.kind = kind
        self.text = text
        self.rows = tuple(rows)
        self.forms = tuple(forms)
        self.blocks = blocks
        self.answers = {}

    def __len__(self):
        return len(self.rows)

    def __getitem__(self, number):
        return self.rows[number - 1]

    def __iter__(self):
        raise TypeError("a code is not iterated over")

    def __eq__(self, other):
        if not isinstance(other, DeedCode):
            return False
        return self.kind == other.kind and self.text == other.text
