"""The forms of the lines of deeds: steps, blocks behind steps, and where the blocks of each step begin and end."""

from heldplaces.codelines import is_spaced
from heldplaces.errors import BadLine

OUTCOMES = {
    "find": ("there", "none"),
    "look": ("held", "stale"),
    "lay": ("laid", "full"),
    "give": ("given", "out"),
    "free": ("freed", "unlent"),
    "strike": ("struck", "bare"),
    "stretch": ("stretched", "full", "bare"),
}
HANDED = {
    "find": (("h", "i"),),
    "look": (("h", "i"), ("p", "q")),
    "lay": (("p", "q"),),
    "give": (("h", "i"), ("p", "q")),
    "free": (("p", "q"),),
    "strike": (("p", "q"),),
    "stretch": (("p", "q"),),
    "enter": (("h", "i"),),
    "leave": (),
}
COPIES = ("h = i", "i = h", "p = q", "q = p")
QUITS = ("quit ok", "quit no")


def read_step(words):
    """The form of a step with a word of its own, or None."""
    handed = HANDED.get(words[0])
    if handed is None or len(words) != len(handed) + 1:
        return None
    for word, names in zip(words[1:], handed):
        if word not in names:
            return None
    return tuple(words)


def read_deed_line(words):
    """The form of a line of a deed, or None."""
    line = " ".join(words)
    if line in COPIES:
        return ("copy", words[0], words[2])
    if line in QUITS:
        return ("quit", words[1])
    if line == "end":
        return ("end",)
    if words[0] == "on":
        return ("on", words[1]) if len(words) == 2 else None
    return read_step(words)


class Blocks:
    """The blocks of a deed, as far as its lines were read.

    Owner is the step behind which, or behind a block of which, the next line stands directly, 0 for none; inner has
    the steps of the blocks that are not closed. Starts tells for each step in which line the block of an outcome
    begins, ends where its last block ends (its own line if it has none), closed to which step an end belongs.
    """

    def __init__(self):
        self.owner = 0
        self.inner = []
        self.starts = {}
        self.ends = {}
        self.closed = {}


def go_in(blocks, forms, line, word):
    """Goes into the block of an outcome. False if it stands behind no step that can come out so."""
    owner = blocks.owner
    if owner == 0 or word not in OUTCOMES[forms[owner - 1][0]] or word in blocks.starts[owner]:
        return False
    blocks.starts[owner][word] = line
    blocks.inner.append(owner)
    blocks.owner = 0
    return True


def go_out(blocks, line):
    """Goes out of the innermost block. False if there is none."""
    if not blocks.inner:
        return False
    blocks.owner = blocks.inner.pop()
    blocks.ends[blocks.owner] = line
    blocks.closed[line] = blocks.owner
    return True


def note_line(blocks, forms, line):
    """Goes on with the blocks at a line that has a form. False if it has none at its place."""
    form = forms[line - 1]
    if form[0] == "on":
        return go_in(blocks, forms, line, form[1])
    if form[0] == "end":
        return go_out(blocks, line)
    blocks.owner = 0
    if form[0] in OUTCOMES:
        blocks.owner = line
        blocks.starts[line] = {}
        blocks.ends[line] = line
    return True


def read_deed(rows):
    """The forms of all lines, and the blocks."""
    forms = []
    blocks = Blocks()
    for at, row in enumerate(rows):
        words = row.split(" ")
        form = read_deed_line(words) if is_spaced(words) else None
        if form is None:
            raise BadLine(at + 1)
        forms.append(form)
        if not note_line(blocks, forms, at + 1):
            raise BadLine(at + 1)
    if blocks.inner:
        raise BadLine(len(rows) + 1)
    return forms, blocks


def step_on(forms, blocks, line):
    """The line from this one on that is played: an end goes on behind the blocks of its step."""
    while line <= len(forms) and forms[line - 1][0] == "end":
        line = blocks.ends[blocks.closed[line]] + 1
    return line


def line_behind(blocks, line, outcome):
    """The line behind a step that came out so."""
    start = blocks.starts[line].get(outcome)
    return (blocks.ends[line] if start is None else start) + 1
