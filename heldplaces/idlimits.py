"""The limits of id codes: what a way may have so often only, and factors that go together."""

from heldplaces.codelines import find_ways

MOST_RECKONINGS = 5
MOST_STAMPS = 3


def factor_of(form):
    """The factor of a line, or None."""
    if form[0] == "reckon" and form[3] != "":
        return form[4]
    return form[1] if form[0] == "rest" else None


def factors_of(forms):
    """The factors of all lines."""
    found = [factor_of(form) for form in forms]
    return [factor for factor in found if factor is not None]


def goes_with(factor, factors):
    """Whether a factor and each of others are one a multiple of the other."""
    return all([factor % other == 0 or other % factor == 0 for other in factors])


def go_together(factors):
    """Whether of any two factors one is a multiple of the other."""
    return all([goes_with(factor, factors) for factor in factors])


def factor_break(forms):
    """The first line whose factor does not go with one ahead of it, or None."""
    met = []
    for at, form in enumerate(forms):
        factor = factor_of(form)
        if factor is not None:
            if not goes_with(factor, met):
                return at + 1
            met.append(factor)
    return None


def asks_place(form):
    """Whether a line of a look has the stamp in its sum or test, or lent."""
    if form[0] == "reckon":
        return "stamp" in [term for _, term in form[2]]
    if form[0] == "if":
        return any([part[1] == "lent" or "stamp" in (part[2], part[3]) for part in form[1]])
    return False


def counted_name(form):
    """The name under which a line is counted on a way, or None."""
    if form[0] == "reckon" and form[3] != "":
        return "reckon"
    return "stamp" if form[0] in ("more", "stamp", "rest") else None


def way_break(kind, forms, way):
    """The first line of a way that breaks a limit, or None."""
    counts = {"reckon": 0, "stamp": 0}
    is_asked = False
    for line in way:
        form = forms[line - 1]
        name = counted_name(form)
        if name is not None:
            counts[name] += 1
        if counts["reckon"] > MOST_RECKONINGS or counts["stamp"] > MOST_STAMPS:
            return line
        is_asked = is_asked or kind == "look" and asks_place(form)
        if is_asked and form[0] == "reckon" and form[1] in ("page", "slot"):
            return line
    return None


def least_refused(kind, forms, jumps):
    """The least line of an id code that breaks a limit, or None."""
    found = [factor_break(forms)] + [way_break(kind, forms, way) for way in find_ways(forms, jumps)]
    told = [line for line in found if line is not None]
    return min(told) if told else None
