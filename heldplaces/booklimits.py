"""The limits of book codes: words that are not for a kind, and what a way may have so often only."""

from heldplaces.codelines import find_ways

MOST_SETTINGS = 2
KINDS_OF_WORDS = {
    "write": ("note",),
    "sealed": ("note", "undo", "redo"),
    "back": ("fail", "undo"),
    "again": ("redo",),
}


def is_for(kind, form):
    """Whether the word of a line is for a kind."""
    return form[0] not in KINDS_OF_WORDS or kind in KINDS_OF_WORDS[form[0]]


def counted_names(form):
    """The names under which a line is counted on a way."""
    word = form[0]
    if word in ("set", "wrap"):
        return [form[1]]
    if word == "sealed":
        return [form[1], "sealed"]
    if word in ("back", "again"):
        return ["moved"]
    return ["write"] if word == "write" else []


def most_of(name):
    """How often a name may be counted on a way."""
    return 1 if name in ("sealed", "moved", "write") else MOST_SETTINGS


def way_break(forms, way):
    """The first line of a way that breaks a limit, or None."""
    counts = {}
    for line in way:
        for name in counted_names(forms[line - 1]):
            counts[name] = counts.get(name, 0) + 1
            if counts[name] > most_of(name):
                return line
    return None


def least_refused(kind, forms, jumps):
    """The least line of a book code that breaks a limit, or None."""
    found = [at + 1 for at, form in enumerate(forms) if not is_for(kind, form)]
    for way in find_ways(forms, jumps):
        line = way_break(forms, way)
        if line is not None:
            found.append(line)
    return min(found) if found else None
