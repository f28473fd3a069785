"""The numbers of which a question about ids is made, and rows of them.

A place is a page and a slot; LIFE is how many lives behind the first one of a run. KEPT is what is asked for least,
OTHER are those of a second place, or of a later life of the first one, QUOTIENTS those of divisions.
"""

from heldplaces.wholerows import name_row, plain_row

KEPT = 0
PAGE = 1
SLOT = 2
LIFE = 3
OTHER_PAGE = 4
OTHER_SLOT = 5
OTHER_LIFE = 6
QUOTIENTS = 7
WIDTH = 17


def number_row(number):
    """The row of a number."""
    return plain_row(WIDTH, number)


def one_row(name, times=1, more=0):
    """The row of a name, so many times, and a number."""
    return name_row(WIDTH, name, times)[:-1] + (more,)
