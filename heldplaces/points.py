"""Whether there are whole numbers for which rows hold, however great the numbers of the rows are.

Names are struck out as long as that is exact. Of what is left, rows without an upper end can be left out: a point of
the other ones can be moved along until they hold, too. The other ones bound a body. Its names are turned so that it is
thin along one of them, or surely has a point; the values of that name are gone through, the middle ones first.
"""

from heldplaces.equalities import System
from heldplaces.extents import greatest_whole, least_whole
from heldplaces.reduction import product_of, reduced
from heldplaces.striking import may_hold, strike_exact, stretch_of
from heldplaces.wholerows import name_row, plain_row, rows_of_bounds

FINE = 64


def used_columns(rows):
    """The places of the names that stand in rows."""
    return [at for at in range(len(rows[0]) - 1) if any([row[at] != 0 for row in rows])]


def with_columns(rows, columns):
    """Rows of some names alone, behind a kept name that stands in none of them."""
    return [(0,) + tuple([row[at] for at in columns]) + (row[-1],) for row in rows]


def least_column(columns, k):
    """The column whose number at a place is nearest to 0."""
    best = columns[0]
    for column in columns:
        if abs(column[k]) < abs(best[k]):
            best = column
    return best


def single_out(columns, k):
    """Columns with the same sums of multiples, of which one at most has a number at a place: that one, and the others.

    The first of the two is a list of one column or none.
    """
    there = [column for column in columns if column[k] != 0]
    rest = [column for column in columns if column[k] == 0]
    while len(there) > 1:
        first = least_column(there, k)
        is_met = False
        left = []
        for column in there:
            if not is_met and column == first:
                is_met = True
                continue
            times = column[k] // first[k]
            left.append([p - times * q for p, q in zip(column, first)])
        rest.extend([column for column in left if column[k] == 0])
        there = [first] + [column for column in left if column[k] != 0]
    return there, rest


def independent(columns):
    """Columns with the same sums of multiples that do not hang on one another."""
    done = []
    left = columns
    for k in range(len(columns[0])):
        there, left = single_out(left, k)
        done.extend(there)
    return done


def turned_columns(columns, slacks):
    """Columns with the same sums of multiples, in names along which a body with these slacks is not long and thin."""
    greatest = max(slacks)
    weights = [FINE * greatest // slack for slack in slacks]
    coordinates = reduced([[p * q for p, q in zip(column, weights)] for column in columns])
    if coordinates is None:
        return turned_columns(independent(columns), slacks)
    lines = [list(line) for line in zip(*columns)]
    return [[product_of(line, one) for line in lines] for one in coordinates]


def turned_rows(rows, slacks):
    """Rows in other names that have a point just where these have one."""
    columns = [[row[at] for row in rows] for at in used_columns(rows)]
    columns = turned_columns(columns, slacks)
    return [tuple([column[k] for column in columns]) + (rows[k][-1],) for k in range(len(rows))]


def thinnest(rows, width):
    """The name with the fewest values, as (name, least, greatest)."""
    best = None
    for at in range(width):
        names = name_row(width, at)[:-1]
        low, high = least_whole(rows, names, width), greatest_whole(rows, names, width)
        if best is None or high - low < best[2] - best[1]:
            best = (at, low, high)
        if high < low:
            return best
    return best


def middle_out(low, high, k):
    """The number k of the numbers from low to high, counted from the middle one."""
    middle = (low + high) // 2
    return middle + (k + 1) // 2 if k % 2 == 1 else middle - k // 2


def has_point_along(rows):
    """Whether there is a point, in a body whose names were turned."""
    width = len(rows[0]) - 1
    at, low, high = thinnest(rows, width)
    for k in range(high - low + 1):
        equal = name_row(width, at)[:-1] + (-middle_out(low, high, k),)
        if has_point([equal], rows):
            return True
    return False


def has_point_open(rows, width):
    """Whether there is a point, where names cannot be struck out."""
    if not may_hold(rows, width):
        return False
    bound, slacks = [], []
    for row in rows:
        greatest = greatest_whole(rows, row[:-1], width)
        if greatest is None:
            continue
        slack = greatest + row[-1]
        if slack < 0:
            return False
        if slack == 0:
            return has_point([row], rows)
        bound.append(row)
        slacks.append(slack)
    return not bound or has_point_along(turned_rows(bound, slacks))


def has_point(equals, rows):
    """Whether there are whole numbers for which equalities and rows hold."""
    columns = used_columns(equals + rows)
    system = System(with_columns(equals, columns), with_columns(rows, columns))
    width = len(columns) + 1
    bounds, strike, _ = strike_exact(system, width)
    if bounds is None or strike is None:
        return bounds is not None
    return has_point_open(rows_of_bounds(bounds), width)


def limited(rows, most):
    """Rows with the limit that the kept name is at most a number."""
    return rows + [(-1,) + plain_row(len(rows[0]) - 2, most)]


def least_kept(rows, width):
    """The least value of the kept name for which there is a point, or None. It has some bound from below."""
    if not has_point([], rows):
        return None
    low = least_whole(rows, name_row(width, 0)[:-1], width)
    step = 0
    while not has_point([], limited(rows, low + step)):
        low = low + step + 1
        step = 2 * step + 1
    high = low + step
    while low < high:
        middle = (low + high) // 2
        if has_point([], limited(rows, middle)):
            high = middle
        else:
            low = middle + 1
    return low


def least_value(equals, rows):
    """The least value of the kept name for which equalities and rows hold, or None. It has some bound from below."""
    width = len(rows[0]) - 1
    system = System(list(equals), list(rows))
    bounds, strike, _ = strike_exact(system, width)
    if bounds is None:
        return None
    if strike is None:
        first = stretch_of(bounds, system)[0]
        return system.base if first is None else first * system.step + system.base
    left = rows_of_bounds(bounds)
    if system.step == 0:
        return system.base if has_point([], left) else None
    found = least_kept(left, width)
    return None if found is None else found * system.step + system.base
