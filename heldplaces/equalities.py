"""Equalities of whole numbers are put in one after the other, until none is left.

The first name of each row is the kept one. It is never struck out; where an equality tells its rest, it is
written as step * t + base, with t in its place.
"""

from heldplaces.wholerows import added, bounds_of, common_factor, rows_of_bounds


class System:
    """Rows that are 0, rows that are 0 or more, and what the kept name stands for.

    Near is None, or (row, low, high): the row is one of the numbers from low to high.
    """

    def __init__(self, equals, rows, step=1, base=0, near=None):
        self.equals = equals
        self.rows = rows
        self.step = step
        self.base = base
        self.near = near


def inverse(number, modulus):
    """What times the number leaves 1 by the modulus; the two have no common factor."""
    before, after = modulus, number % modulus
    old, new = 0, 1
    while after != 0:
        times = before // after
        before, after = after, before - times * after
        old, new = new, old - times * new
    return old % modulus


def unit_at(row):
    """Where a name but the kept one stands once, or None."""
    for at in range(1, len(row) - 1):
        if row[at] == 1 or row[at] == -1:
            return at
    return None


def without_name(row, equal, at):
    """A row with the name put in that an equality tells, in which it stands once."""
    if row[at] == 0:
        return row
    return added(row, equal, -row[at] * equal[at])


def put_in(system, equal, at):
    """Strikes out a name that stands once in an equality."""
    system.equals = [without_name(row, equal, at) for row in system.equals]
    system.rows = [without_name(row, equal, at) for row in system.rows]


def with_kept(row, step, base):
    """A row with step * t + base in the place of the kept name."""
    if row[0] == 0:
        return row
    return (row[0] * step,) + row[1:-1] + (row[-1] + row[0] * base,)


def set_kept(system, step, base):
    """Writes the kept name as step * t + base; a step of 0 fixes it."""
    system.equals = [with_kept(row, step, base) for row in system.equals]
    system.rows = [with_kept(row, step, base) for row in system.rows]
    system.base = system.base + system.step * base
    system.step = system.step * step


def without_many(row, at, times):
    """A row in which the name at a place is less by so many of each other one."""
    if row[at] == 0:
        return row
    return added(row, times, -row[at])


def shear(system, equal, at):
    """Makes the other numbers of an equality less than the one at a place."""
    times = tuple([0 if k == at else worth // equal[at] for k, worth in enumerate(equal)])
    system.equals = [without_many(row, at, times) for row in system.equals]
    system.rows = [without_many(row, at, times) for row in system.rows]
    system.equals.append(without_many(equal, at, times))


def least_at(row):
    """Where the number that is nearest to 0 stands, of those of names but the kept one."""
    found = None
    for at in range(1, len(row) - 1):
        if row[at] != 0 and (found is None or abs(row[at]) < abs(row[found])):
            found = at
    return found


def settle_kept(system, equal, factor):
    """Goes on with an equality that tells the rest of the kept name by a factor, or the name itself."""
    if factor == 0:
        set_kept(system, 0, -equal[-1] * equal[0])
    else:
        rest = (-equal[-1] * inverse(equal[0], factor)) % factor
        system.equals.append(equal)
        set_kept(system, factor, rest)


def settle_one(system, row):
    """Puts in one equality, or goes on with it. False if it cannot hold."""
    factor = common_factor(row[:-1])
    if factor == 0:
        return row[-1] == 0
    if row[-1] % factor != 0:
        return False
    equal = row if factor == 1 else tuple([worth // factor for worth in row])
    at = unit_at(equal)
    if at is not None:
        put_in(system, equal, at)
        return True
    others = common_factor(equal[1:-1])
    if others == 1:
        shear(system, equal, least_at(equal))
    else:
        settle_kept(system, equal, others)
    return True


def settle(system):
    """Puts in all equalities, also those that two rows make. The bounds that are left, or None."""
    while True:
        while system.equals:
            row = system.equals.pop()
            if not settle_one(system, row):
                return None
        bounds = bounds_of(system.rows)
        if bounds.is_void:
            return None
        if not bounds.equals:
            return bounds
        system.equals = bounds.equals
        system.rows = rows_of_bounds(bounds)
