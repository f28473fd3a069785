"""The numbers of which a page case is made, and rows of them.

Size, low, rooms and places of records are counted in units. BELOW and ABOVE are the rooms of the other records
below and above own (all of them are BELOW where there is no own at first); a length is its room less SPARE (own's)
or LESS (the handed one). NUMBER is the number of own's slot. The last four are quotients and rests of a play.
"""

from heldplaces.wholerows import name_row, plain_row

SIZE = 0
SLOTS = 1
LOW = 2
BELOW = 3
ABOVE = 4
AT = 5
ROOM = 6
SPARE = 7
ASKED = 8
LESS = 9
NUMBER = 10
QUOTIENT = 11
OWN_QUOTIENT = 13
REST = 14
WIDTH = 15


def number_row(number):
    """The row of a number."""
    return plain_row(WIDTH, number)


def one_row(name, times=1, more=0):
    """The row of a name, so many times, and a number."""
    return name_row(WIDTH, name, times)[:-1] + (more,)


def unit_row(unit, *names):
    """The row of the bytes of names that are counted in units."""
    worths = [0] * (WIDTH + 1)
    for name in names:
        worths[name] = unit
    return tuple(worths)
