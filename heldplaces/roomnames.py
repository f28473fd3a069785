"""The numbers of which a room case is made, and rows of them.

Size and the fit that was told last are counted in units; the length is not. The last two are the quotients of a play
of each text.
"""

from heldplaces.wholerows import name_row, plain_row

SIZE = 0
TOLD = 1
LENGTH = 2
CLASS_QUOTIENT = 3
ASK_QUOTIENT = 4
WIDTH = 5


def number_row(number):
    """The row of a number."""
    return plain_row(WIDTH, number)


def one_row(name, times=1, more=0):
    """The row of a name, so many times, and a number."""
    return name_row(WIDTH, name, times)[:-1] + (more,)


def least_units(rules):
    """From how many units on the fit of a page without slots is the size less so many units, and not 0."""
    return -(-(rules.head + rules.slot) // rules.unit)


def full_row(rules):
    """Full, in bytes, where it is not below 0."""
    return one_row(SIZE, rules.unit, -rules.unit * least_units(rules))


def size_rows(rules):
    """What sizes in use keep to."""
    rows = [one_row(SIZE, 1, -1), one_row(SIZE, rules.unit, -rules.head)]
    if rules.most is not None:
        rows.append(one_row(SIZE, -rules.unit, rules.most + 1))
    return rows
