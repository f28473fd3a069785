"""Which values tell a right page, and what each kind of page code is handed."""

from heldplaces.pagerules import round_up
from heldplaces.values import is_from, is_whole


def is_pair(value):
    """Whether a value is a tuple of two integers."""
    return isinstance(value, tuple) and len(value) == 2 and is_whole(value[0]) and is_whole(value[1])


def is_record(value):
    """Whether a value is None, or a pair (at, len) with a length from 1 on."""
    return value is None or is_pair(value) and value[1] >= 1


def is_told(page):
    """Whether a value has the form (size, low, row) of a page."""
    if not isinstance(page, tuple) or len(page) != 3:
        return False
    size, low, row = page
    if not is_from(size, 1) or not is_whole(low) or not isinstance(row, tuple):
        return False
    return len([True for record in row if not is_record(record)]) == 0


def rooms_of(rules, row):
    """The rooms of all records of a row together."""
    return sum([round_up(record[1], rules.unit) for record in row if record is not None])


def are_laid_right(rules, size, low, row):
    """Whether the records of a row lie from low on, at multiples of unit, and none on another one."""
    free = low
    for at, length in sorted([record for record in row if record is not None]):
        if at < free or at % rules.unit != 0:
            return False
        free = at + round_up(length, rules.unit)
    return free <= size


def is_right(rules, size, low, row):
    """Whether a page is right, whatever its holes are."""
    edge = rules.head + rules.slot * len(row)
    if not edge <= low <= size or low % rules.unit != 0:
        return False
    if rules.most is not None and low > rules.most:
        return False
    return are_laid_right(rules, size, low, row)


def is_right_page(rules, page):
    """Whether a value of any kind is a right page of a size in use."""
    if not is_told(page):
        return False
    size, low, row = page
    return rules.in_use(size) and is_right(rules, size, low, row)


def is_held_slot(row, number):
    """Whether a value is the number of a slot with a record."""
    return is_from(number, 0) and number < len(row) and row[number] is not None


def is_handed(kind, row, handed):
    """Whether a value is what a page code of a kind is handed for a page with this row."""
    if kind == "put":
        return is_from(handed, 1)
    if kind == "strike":
        return is_held_slot(row, handed)
    if kind == "set":
        return is_pair(handed) and is_held_slot(row, handed[0]) and handed[1] >= 1
    return handed is None
