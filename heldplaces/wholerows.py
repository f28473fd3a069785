"""Rows of whole numbers. A row (a, b, .., c) stands for a * x + b * y + .. + c; the last number stands alone."""

from math import gcd


def added(first, second, times=1):
    """The first row and so many times the second one."""
    return tuple([one + times * two for one, two in zip(first, second)])


def minus(first, second):
    """The first row less the second one."""
    return tuple([one - two for one, two in zip(first, second)])


def times_row(row, times):
    """A row so many times."""
    return tuple([worth * times for worth in row])


def with_more(row, number):
    """A row with a number put to its last one."""
    return row[:-1] + (row[-1] + number,)


def negated(row):
    """The row that is 0 or more exactly where the other one is not."""
    return with_more(times_row(row, -1), -1)


def plain_row(width, number):
    """The row of a number, beside so many names."""
    return (0,) * width + (number,)


def name_row(width, at, times=1):
    """The row of one name, so many times."""
    return (0,) * at + (times,) + (0,) * (width - at)


def is_constant(row):
    """Whether no name stands in a row."""
    return not any(row[:-1])


def common_factor(worths):
    """The greatest number that divides all of them, 0 if all are 0."""
    found = 0
    for worth in worths:
        if worth:
            found = gcd(found, worth)
            if found == 1:
                return 1
    return found


class Bounds:
    """Rows that have to be 0 or more: of those that are alike but for the last number the tightest."""

    def __init__(self):
        self.lasts = {}
        self.equals = []
        self.is_void = False


def hold(bounds, names, last):
    """Puts in that a row is 0 or more. Two rows that leave one value only become an equality."""
    factor = common_factor(names)
    if factor == 0:
        if last < 0:
            bounds.is_void = True
        return
    if factor > 1:
        names = tuple([worth // factor for worth in names])
        last = last // factor
    old = bounds.lasts.get(names)
    if old is not None and old <= last:
        return
    bounds.lasts[names] = last
    other = bounds.lasts.get(tuple([-worth for worth in names]))
    if other is None or other + last > 0:
        return
    if other + last < 0:
        bounds.is_void = True
    else:
        bounds.equals.append(names + (last,))


def bounds_of(rows):
    """The bounds of a list of rows."""
    bounds = Bounds()
    for row in rows:
        hold(bounds, row[:-1], row[-1])
    return bounds


def rows_of_bounds(bounds):
    """The list of the rows of bounds."""
    return [names + (last,) for names, last in bounds.lasts.items()]
