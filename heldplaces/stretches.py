"""Sets of whole numbers, told by stretches: (first, last, step), each step-th number from the first to the last one.

The last one may be None, for no end.
"""

from math import gcd


def next_in(stretch, number):
    """The least member of a stretch from a number on, or None."""
    first, last, step = stretch
    found = first
    if number > first:
        found = number + (first - number) % step
    if last is not None and found > last:
        return None
    return found


def next_of(stretches, number):
    """The least member of stretches from a number on, or None."""
    found = [next_in(stretch, number) for stretch in stretches]
    told = [one for one in found if one is not None]
    return min(told) if told else None


def is_in(stretches, number):
    """Whether a number is in one of the stretches."""
    return any([next_in(stretch, number) == number for stretch in stretches])


def ends_before(last, number):
    """Whether a stretch with this end ends below a number."""
    return last is not None and last < number


def first_of(row):
    """Where a stretch begins."""
    return row[0]


def joined_rows(rows, step):
    """The stretches (first, last) of one step and rest, joined where they meet."""
    found = []
    for first, last in sorted(rows, key=first_of):
        if found and not ends_before(found[-1][1], first - step):
            before = found[-1]
            end = None if before[1] is None or last is None else max(before[1], last)
            found[-1] = (before[0], end)
        else:
            found.append((first, last))
    return found


def joined_alike(stretches):
    """Stretches of which those with the same step and rest are joined."""
    groups = {}
    for first, last, step in stretches:
        groups.setdefault((step, first % step), []).append((first, last))
    found = []
    for step, rest in sorted(list(groups)):
        for first, last in joined_rows(groups[(step, rest)], step):
            found.append((first, last, step))
    return found


def is_within(inner, outer):
    """Whether a stretch is part of another one."""
    first, last, step = inner
    start, end, wide = outer
    if step % wide != 0 or first < start or first % wide != start % wide:
        return False
    return end is None or last is not None and last <= end


def simple_stretches(stretches):
    """The same set, without stretches that are part of another one."""
    found = []
    for stretch in joined_alike(stretches):
        if not any([is_within(stretch, other) for other in found]):
            found.append(stretch)
    return found


def split_class(free, taken):
    """What is left of the class (rest, step) of numbers without the numbers of another class."""
    rest, step = free
    common = gcd(step, taken[1])
    if rest % common != taken[0] % common:
        return [free]
    whole = step * (taken[1] // common)
    rows = [(at, whole) for at in range(rest, whole, step)]
    return [row for row in rows if row[0] % taken[1] != taken[0]]


def left_of(one, others):
    """The classes that are left of a class without other ones."""
    found = [one]
    for other in others:
        ahead = []
        for row in found:
            ahead.extend(split_class(row, other))
        found = ahead
    return found


def is_taken(rests, one):
    """Whether a class is part of one that was noted; rests has for each step the rests of the classes noted."""
    rest, step = one
    return any([step % size == 0 and rest % size in rests[size] for size in rests])


def classes_apart(taken):
    """The numbers of classes as classes that have none in common. Those of small steps stay as they are."""
    found = []
    rests = {}
    for step, one in sorted([(row[1], row) for row in taken]):
        if is_taken(rests, one):
            continue
        # Only classes of a step that does not divide this one can have a part of its numbers.
        others = [size for size in rests if step % size != 0]
        left = left_of(one, [row for row in found if row[1] in others]) if others else [one]
        for rest, size in left:
            rests.setdefault(size, {})[rest] = True
        found = found + left
    return found


def are_all(classes):
    """Whether classes that have no number in common have all numbers together."""
    whole = 1
    for _, step in classes:
        whole = whole // gcd(whole, step) * step
    return sum([whole // step for _, step in classes]) == whole


class Region:
    """The numbers from start to below end (None: no end), of which those of the classes are in some stretch."""

    def __init__(self, start, end, classes):
        self.start = start
        self.end = end
        self.classes = classes
        self.is_full = are_all(classes)


def regions_of(stretches):
    """The regions of all numbers from 1 on, in each of which the stretches go on as they are."""
    cuts = {1: True}
    for first, last, _ in stretches:
        cuts[max(first, 1)] = True
        if last is not None:
            cuts[max(last + 1, 1)] = True
    starts = sorted(list(cuts))
    found = []
    for at, start in enumerate(starts):
        there = [row for row in stretches if row[0] <= start and not ends_before(row[1], start)]
        taken = [(first % step, step) for first, _, step in there]
        end = starts[at + 1] if at + 1 < len(starts) else None
        found.append(Region(start, end, classes_apart(taken)))
    return found


def next_class(row, number):
    """The least number of a class from a number on."""
    return number + (row[0] - number) % row[1]


def free_in(region, number):
    """The least number of a region from one on that is in no stretch, or None."""
    if region.is_full:
        return None
    found = max(number, region.start)
    while any([found % step == rest for rest, step in region.classes]):
        found = found + 1
    return found if region.end is None or found < region.end else None


def next_free(regions, number):
    """The least number from one on that is in no stretch, or None."""
    for region in regions:
        if region.end is None or region.end > number:
            found = free_in(region, number)
            if found is not None:
                return found
    return None


def count_class(row, start, end):
    """How many numbers of a class are from start to below end."""
    found = next_class(row, start)
    return 0 if found >= end else (end - 1 - found) // row[1] + 1


def count_taken(regions, most):
    """How many numbers from 1 to most are in some stretch."""
    total = 0
    for region in regions:
        end = most + 1 if region.end is None else min(region.end, most + 1)
        if region.start < end:
            total = total + sum([count_class(row, region.start, end) for row in region.classes])
    return total
