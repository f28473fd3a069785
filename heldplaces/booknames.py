"""The numbers of which a book case is made, and rows of them.

NEXT is the place where the next row is written at first; ROWS are all rows that are kept. OTHER are those of the open
group, or the undone ones: a case has one of the two at most. LENGTH is a length that was found sealed, GROUP that of
the group that is owed to be forgotten, taken back or done again.
"""

from heldplaces.wholerows import name_row, plain_row

SIZE = 0
NEXT = 1
ROWS = 2
OTHER = 3
LENGTH = 4
GROUP = 5
WIDTH = 6


def number_row(number):
    """The row of a number."""
    return plain_row(WIDTH, number)


def one_row(name, times=1, more=0):
    """The row of a name, so many times, and a number."""
    return name_row(WIDTH, name, times)[:-1] + (more,)


def keep_row(rules):
    """How many rows may be kept."""
    return one_row(SIZE, rules.times, rules.more)
