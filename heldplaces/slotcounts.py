"""The greatest number that own gets on pages of a size."""

from heldplaces.pagecases import fixed
from heldplaces.pageforks import numbered
from heldplaces.pagenames import SIZE
from heldplaces.pageverdicts import findings_of
from heldplaces.searching import some_value


def greatest_on(way, code, size):
    """The greatest number of own's slot on a way that is done, or None."""
    found = numbered(way, code.kind)
    # One more name, ahead of all others, is the number taken from 0: so the least one is looked for.
    equals = [(0,) + row for row in found.equals + (fixed(SIZE, size // code.rules.unit),)]
    equals.append((1,) + found.forms["number"])
    least = some_value(equals, [(0,) + row for row in found.rows], "least")
    return None if least is None else -least


def count_slots(code, size):
    """One more than the greatest number that own gets in a play that is done on a page of a size in use, or 0."""
    if ("slots", size) not in code.answers:
        numbers = [greatest_on(way, code, size) for way in findings_of(code).dones]
        code.answers[("slots", size)] = max([number + 1 for number in numbers if number is not None], default=0)
    return code.answers[("slots", size)]
