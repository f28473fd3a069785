"""For which values of the kept name rows of whole numbers can hold. What was found is not looked for again."""

from heldplaces.equalities import System, settle
from heldplaces.striking import may_hold, strike_all
from heldplaces.wholerows import plain_row, rows_of_bounds, times_row, with_more

MOST_PARTS = 4


class Search:
    """What was found of a set of numbers, of which "all", "one" or the "least" is wanted.

    For each class (rest, step) of numbers `classes` has the stretches (first, last) of it that were found, ascending.
    """

    def __init__(self, wanted):
        self.wanted = wanted
        self.classes = {}
        self.value = None
        self.is_ended = False


def is_less(first, second):
    """Whether a first end lies below another one; None is below all numbers."""
    return second is not None and (first is None or first < second)


def lesser_end(one, two):
    """The lesser of two ends; None is above all numbers."""
    if one is None or two is None:
        return two if one is None else one
    return min(one, two)


def first_place(rows, first):
    """Where a stretch with this first number belongs among ascending ones."""
    at = 0
    while at < len(rows) and is_less(rows[at][0], first):
        at = at + 1
    return at


def join_stretch(rows, first, last, step):
    """Ascending stretches of a class with one more, joined where they meet."""
    at = first_place(rows, first)
    found = []
    for low, high in rows[:at] + [(first, last)] + rows[at:]:
        if not found:
            found.append((low, high))
            continue
        start, end = found[-1]
        if end is not None and low is not None and end + step < low:
            found.append((low, high))
        else:
            found[-1] = (start, None if end is None or high is None else max(end, high))
    return found


def numbers_of(stretch):
    """A stretch (first, last, step, base) of the kept name as (first, last, step), with None for no end."""
    first, last, step, base = stretch
    if step == 0:
        return base, base, 1
    start = None if first is None else first * step + base
    end = None if last is None else last * step + base
    if start is not None and start == end:
        return start, end, 1
    return start, end, step


def some_number(stretch):
    """A number of a stretch of the kept name, the least one if there is one."""
    first, last, step, base = stretch
    if first is not None:
        return first * step + base
    return base if last is None else last * step + base


def note_class(search, first, last, step, rest):
    """Puts a stretch of a class to what was found."""
    rows = search.classes.get((rest, step), [])
    search.classes[(rest, step)] = join_stretch(rows, first, last, step)


def note_whole(search, step):
    """Puts together a stretch that all rests of a step have in common."""
    first, last = None, None
    for rest in range(step):
        if (rest, step) not in search.classes:
            return
        low, high = search.classes[(rest, step)][-1]
        first = low if is_less(first, low) else first
        last = lesser_end(last, high)
    if first is None or last is None or first <= last:
        note_class(search, first, last, 1, 0)


def note_found(search, stretch):
    """Notes a stretch of the kept name that was found."""
    number = some_number(stretch)
    if search.value is None or number < search.value:
        search.value = number
    search.is_ended = search.wanted == "one"
    if search.wanted == "least":
        search.classes = {(0, 1): [(number, None)]}
        return
    first, last, step = numbers_of(stretch)
    note_class(search, first, last, step, stretch[3] % step)
    if step > 1:
        note_whole(search, step)


def taken_rows(search, step, base):
    """The stretches that were found and have each number base, base + step, .. that lies in them."""
    found = []
    for rest, size in search.classes:
        if step % size == 0 and base % size == rest:
            for first, last in search.classes[(rest, size)]:
                found = join_stretch(found, first, last, 1)
    return found


def open_parts(taken):
    """The parts (low, high) between stretches that are taken: all if they are few, or what lies around them."""
    found = []
    low = None
    for first, last in taken:
        if first is not None and (low is None or low < first):
            found.append((low, first - 1))
        if last is None:
            return joined_parts(found)
        low = last + 1
    found.append((low, None))
    return joined_parts(found)


def joined_parts(parts):
    """The parts, or one around all of them if they are many."""
    if len(parts) <= MOST_PARTS:
        return parts
    return [(parts[0][0], parts[-1][1])]


def part_rows(system, width, part):
    """The rows that leave of a system the numbers of a part."""
    low, high = part
    rows = []
    if low is not None:
        rows.append((system.step,) + plain_row(width - 1, system.base - low))
    if high is not None:
        rows.append((-system.step,) + plain_row(width - 1, high - system.base))
    return rows


def parts_of(search, system):
    """The parts of the numbers of a system that were not found yet."""
    return open_parts(taken_rows(search, system.step, system.base))


def split_parts(search, system, width):
    """The systems that are left of a system, without what was found."""
    if not search.classes:
        return [system]
    bounds = settle(system)
    if bounds is None:
        return []
    rows = rows_of_bounds(bounds)
    return [System([], rows + part_rows(system, width, part), system.step, system.base)
            for part in parts_of(search, system)]


def is_left(search, system, rows, width):
    """Whether something can be found with these rows that was not found yet, as far as broken numbers tell."""
    for part in parts_of(search, system):
        if may_hold(rows + part_rows(system, width, part), width):
            return True
    return False


def halves(search, system, width):
    """A system near a bound, as two systems with half of the distances each, or as one with an equality."""
    row, low, high = system.near
    rows = system.rows + [with_more(row, -low), with_more(times_row(row, -1), high)]
    if not is_left(search, system, rows, width):
        return []
    if low == high:
        return [System([with_more(row, -low)], system.rows, system.step, system.base)]
    middle = (low + high) // 2
    return [System([], system.rows, system.step, system.base, (row, middle + 1, high)),
            System([], system.rows, system.step, system.base, (row, low, middle))]


def search_rows(search, equals, rows):
    """Puts to a search for which values of the kept name rows can hold."""
    some = equals if equals else rows
    width = len(some[0]) - 1
    work = [System(list(equals), list(rows))]
    while work and not search.is_ended:
        system = work.pop()
        if system.near is not None:
            work.extend(halves(search, system, width))
            continue
        for one in split_parts(search, system, width):
            stretch, more = strike_all(one, width)
            work.extend(more)
            if stretch is not None:
                note_found(search, stretch)


def found_stretches(search):
    """What was found, as stretches (first, last, step)."""
    found = []
    for rest, step in search.classes:
        for first, last in search.classes[(rest, step)]:
            found.append((first, last, step))
    return found


def can_hold(equals, rows):
    """Whether there are whole numbers for which all equalities and rows hold."""
    search = Search("one")
    search_rows(search, equals, rows)
    return search.value is not None


def some_value(equals, rows, wanted):
    """One value of the kept name for which rows can hold, or the least one; None if there is none."""
    search = Search(wanted)
    search_rows(search, equals, rows)
    return search.value
