"""The limits of page codes: words that are not for a kind, and what a way may have so often only."""

from heldplaces.codelines import find_ways

MOST_SETTINGS = 3
MOST_DIVISIONS = 2
PLACED = ("own.at", "own.len", "slots")


def line_kinds(row):
    """The kinds for which all words of a line are."""
    words = row.split(" ")
    kinds = ["put", "strike", "set", "pack"]
    if words[0] == "take" or "there" in words or row == "slots = slots + 1":
        kinds = ["put"]
    if row == "slots = slots - 1":
        kinds = ["strike"]
    if row == "clear own" or "room" in words and "own.len" in words:
        kinds = [kind for kind in kinds if kind in ("strike", "set")]
    if row == "no" or words[0] == "lay" or "len" in words:
        kinds = [kind for kind in kinds if kind in ("put", "set")]
    if "own" in words or "own.at" in words or "own.len" in words:
        kinds = [kind for kind in kinds if kind != "pack"]
    return kinds


def counted_names(form):
    """The names under which a line is counted on a way."""
    word = form[0]
    if word == "divide":
        return [form[1], "//"]
    if word in ("set", "room", "own"):
        return [form[1]]
    if word in ("take", "clear", "pack", "lay", "slots"):
        return [word]
    return []


def most_of(name):
    """How often a name may be counted on a way."""
    if name == "//":
        return MOST_DIVISIONS
    return MOST_SETTINGS if name in ("a", "b", "c") else 1


def asks_empty(form):
    """Whether a line is an if whose test asks for an empty slot."""
    return form[0] == "if" and len([part for part in form[1] if part[1] == "empty"]) > 0


def breaks_limit(form, counts):
    """Whether a line breaks a limit behind those that were counted."""
    for name in counted_names(form):
        if counts.get(name, 0) >= most_of(name):
            return True
    if form[0] == "pack":
        return len([name for name in PLACED + ("lay",) if name in counts]) > 0
    if form[0] == "take" or asks_empty(form):
        return len([name for name in PLACED if name in counts]) > 0
    return False


def way_break(forms, way):
    """The first line of a way that breaks a limit, or None."""
    counts = {}
    for line in way:
        form = forms[line - 1]
        if breaks_limit(form, counts):
            return line
        for name in counted_names(form):
            counts[name] = counts.get(name, 0) + 1
    return None


def least_refused(kind, rows, forms, jumps):
    """The least line of a page code that breaks a limit, or None."""
    found = [at + 1 for at, row in enumerate(rows) if kind not in line_kinds(row)]
    for way in find_ways(forms, jumps):
        line = way_break(forms, way)
        if line is not None:
            found.append(line)
    return min(found) if found else None
