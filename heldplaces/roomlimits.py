"""The limits of room texts: what a way may have so often only, and where a class that comes from bits may stand."""

from heldplaces.codelines import find_ways

MOST_SETTINGS = 3
MOST_BESIDE = 99


def counted_names(form):
    """The names under which a line is counted on a way."""
    if form[0] == "set":
        return [form[1]]
    if form[0] == "divide":
        return [form[1], "//"]
    return [form[1], "bits"] if form[0] == "bits" else []


def most_of(name):
    """How often a name may be counted on a way."""
    return 1 if name in ("//", "bits") else MOST_SETTINGS


def is_small(term):
    """Whether a term is a number that may stand beside a class from bits."""
    return isinstance(term, int) and term <= MOST_BESIDE


def has_class(form):
    """Whether class stands in the sum of a line."""
    return form[0] in ("set", "divide", "bits") and "class" in [term for _, term in form[2]]


def sums_plainly(form):
    """Whether a line is `class = SUM`, with no - ahead of class and small numbers alone beside it."""
    if form[0] != "set" or form[1] != "class":
        return False
    return all([term == "class" and sign == 1 or is_small(term) for sign, term in form[2]])


def compares_otherwise(part):
    """Whether a part of a test compares class with what is neither top nor a small number."""
    _, _, left, right = part
    if left != "class" and right != "class":
        return False
    other = right if left == "class" else left
    return other != "top" and not is_small(other)


def stands_otherwise(form):
    """Whether class stands in a line in which one that comes from bits may not."""
    if form[0] == "if":
        return any([compares_otherwise(part) for part in form[1]])
    return has_class(form) and not sums_plainly(form)


def comes_from_bits(form, before):
    """Whether class comes from bits behind a line."""
    if form[0] == "bits":
        return True
    if form[0] in ("set", "divide") and form[1] == "class" and not has_class(form):
        return False
    return before


def way_break(forms, way):
    """The first line of a way that breaks a limit, or None."""
    counts = {}
    is_bits = False
    for line in way:
        form = forms[line - 1]
        for name in counted_names(form):
            counts[name] = counts.get(name, 0) + 1
            if counts[name] > most_of(name):
                return line
        if is_bits and stands_otherwise(form):
            return line
        is_bits = comes_from_bits(form, is_bits)
    return None


def least_refused(forms, jumps):
    """The least line of a room text that breaks a limit, or None."""
    found = [way_break(forms, way) for way in find_ways(forms, jumps)]
    told = [line for line in found if line is not None]
    return min(told) if told else None
