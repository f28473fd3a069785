"""Striking names out of rows of whole numbers, exactly, until the kept name alone is left.

A name between bounds a * x >= low and b * x <= high is there if b * low <= a * high, where a or b is 1. Where
none is, it surely is there if the bounds are (a - 1) * (b - 1) apart; otherwise it lies so near to a bound that
its distances are gone through, each one an equality.
"""

from heldplaces.equalities import System, settle
from heldplaces.pruning import MOST_ROWS, is_implied, pruned
from heldplaces.wholerows import Bounds, common_factor, hold, plain_row, rows_of_bounds


class Strike:
    """A name that is to be struck out: the rows that bound it from below, from above, and the other ones."""

    def __init__(self, bounds, at):
        self.at = at
        self.lows = []
        self.highs = []
        self.rest = {}
        for names, last in bounds.lasts.items():
            if names[at] > 0:
                self.lows.append((names, last))
            elif names[at] < 0:
                self.highs.append((names, last))
            else:
                self.rest[names] = last


def count_bounds(bounds, width):
    """For each name how many rows bound it from below and above, and by the greatest number each."""
    lows, highs = [0] * width, [0] * width
    tops, ends = [0] * width, [0] * width
    for names in bounds.lasts:
        for at, worth in enumerate(names):
            if worth > 0:
                lows[at] += 1
                tops[at] = max(tops[at], worth)
            elif worth < 0:
                highs[at] += 1
                ends[at] = max(ends[at], -worth)
    return lows, highs, tops, ends


def choose_name(bounds, width):
    """The name to strike out next, or None if only the kept one is left."""
    lows, highs, tops, ends = count_bounds(bounds, width)
    best = None
    found = None
    for at in range(1, width):
        low, high = lows[at], highs[at]
        if low == 0 and high == 0:
            continue
        if low == 0 or high == 0:
            return at
        near = 0 if tops[at] == 1 or ends[at] == 1 else min(low * tops[at], high * ends[at])
        cost = near + low * high - low - high
        if best is None or cost < best:
            best = cost
            found = at
    return found


def join_pair(low, high, at):
    """The names and the last number of the row without the name at a place, and how far off it surely is there."""
    one, two = low[0][at], -high[0][at]
    if one == 1 and two == 1:
        return tuple([p + q for p, q in zip(low[0], high[0])]), low[1] + high[1], 0
    names = tuple([two * p + one * q for p, q in zip(low[0], high[0])])
    return names, two * low[1] + one * high[1], (one - 1) * (two - 1)


def is_open_pair(names, last, gap):
    """Whether a pair of bounds can hold without a whole number between them."""
    if gap == 0:
        return False
    factor = common_factor(names)
    if factor == 0:
        return 0 <= last < gap
    return last // factor != (last - gap) // factor


def joined(strike, is_dark):
    """The bounds with a name struck out, where is_dark with all gaps, and the open pairs (low, high)."""
    bounds = Bounds()
    bounds.lasts = {names: strike.rest[names] for names in strike.rest}
    open_pairs = []
    rows = []
    for k, low in enumerate(strike.lows):
        for j, high in enumerate(strike.highs):
            names, last, gap = join_pair(low, high, strike.at)
            rows.append((names, last - gap if is_dark else last))
            if is_open_pair(names, last, gap):
                open_pairs.append((k, j))
    for names, last in rows:
        hold(bounds, names, last)
        if bounds.is_void:
            break
    return bounds, open_pairs


def near_count(one, two):
    """How many distances from a bound by the number one are to be tried, for a bound by the number two."""
    return (one * two - one - two) // two + 1


def near_bounds(strike, open_pairs):
    """The bounds near which a name may lie, with how many distances: those from below, or those from above."""
    lows, highs = {}, {}
    for k, j in open_pairs:
        one, two = strike.lows[k][0][strike.at], -strike.highs[j][0][strike.at]
        lows[k] = max(lows.get(k, 0), near_count(one, two))
        highs[j] = max(highs.get(j, 0), near_count(two, one))
    if sum(list(lows.values())) <= sum(list(highs.values())):
        return [(strike.lows[k], lows[k]) for k in lows]
    return [(strike.highs[j], highs[j]) for j in highs]


def split_near(rows, strike, open_pairs, step, base):
    """The systems in which a name lies near to one of its bounds."""
    return [System([], rows, step, base, (names + (last,), 0, many - 1))
            for (names, last), many in near_bounds(strike, open_pairs)]


def stretch_of(bounds, system):
    """The stretch (first, last, step, base) of the kept name; None stands for no end."""
    first, last = None, None
    for names, worth in bounds.lasts.items():
        if names[0] == 1:
            first = -worth
        else:
            last = worth
    return (first, last, system.step, system.base)


def few_rows(bounds, width):
    """The bounds, without those that the other ones imply if they are many."""
    return bounds if len(bounds.lasts) <= MOST_ROWS else pruned(bounds, width)


def may_hold(rows, width):
    """False if rows cannot hold, not even by broken numbers."""
    return not is_implied(rows, plain_row(width, -1), width)


def split(system, bounds, strike, open_pairs):
    """The systems whose solutions together are those of a system in which a name is struck out with open pairs."""
    rows = rows_of_bounds(bounds)
    if not may_hold(rows, len(rows[0]) - 1):
        return []
    found = split_near(rows, strike, open_pairs, system.step, system.base)
    dark, _ = joined(strike, True)
    if not dark.is_void:
        found.append(System(list(dark.equals), rows_of_bounds(dark), system.step, system.base))
    return found


def strike_exact(system, width):
    """Strikes out names as long as that is exact.

    Tells the bounds that are left, None if they cannot hold, the next strike, None if the kept name alone is left,
    and its open pairs.
    """
    bounds = settle(system)
    while bounds is not None:
        bounds = few_rows(bounds, width)
        at = choose_name(bounds, width)
        if at is None:
            return bounds, None, []
        strike = Strike(bounds, at)
        after, open_pairs = joined(strike, False)
        if after.is_void:
            return None, None, []
        if open_pairs:
            return bounds, strike, open_pairs
        bounds = after
        if bounds.equals:
            system.equals = bounds.equals
            system.rows = rows_of_bounds(bounds)
            bounds = settle(system)
    return None, None, []


def strike_all(system, width):
    """Strikes out names as long as that is exact: a stretch or None, and the systems with which to go on."""
    bounds, strike, open_pairs = strike_exact(system, width)
    if bounds is None:
        return None, []
    if strike is None:
        return stretch_of(bounds, system), []
    return None, split(system, bounds, strike, open_pairs)
