"""Book cases from the numbers of which they are made."""

from heldplaces.booknames import GROUP, LENGTH, NEXT, ROWS, SIZE, WIDTH, one_row
from heldplaces.pagecases import form_value, value_at


def fixed(name, value):
    """The equality of a name and a value."""
    return one_row(name, 1, -value)


def solve_break(found, size, rows):
    """Numbers for which a break of this size and number of rows comes up."""
    values = [0] * WIDTH
    equals = []
    for name, value in ((SIZE, size), (ROWS, rows)):
        values[name] = value
        equals.append(fixed(name, value))
    for name in range(WIDTH):
        if name not in (SIZE, ROWS):
            values[name] = value_at(equals, found.rows, name, "one")
            equals.append(fixed(name, values[name]))
    return values


def sealed_span(found, values):
    """The region of the group at a row of which a seal was asked, and its first row and the one behind its last one."""
    region, side, offset = found.sealed
    at = form_value(offset, values)
    if side == "inner":
        return region, at - 1, at + 2
    if side == "first":
        return region, at, at + values[LENGTH]
    return region, at + 1 - values[LENGTH], at + 1


def group_span(found, values, many):
    """The region of the group that is owed, and its first row and the one behind its last one."""
    region, side = found.group
    if side == "first":
        return region, 0, values[GROUP]
    return region, many - values[GROUP], many


def lengths_of(many, spans):
    """The lengths of groups of so many rows together, of which some lie as told."""
    lengths = []
    at = 0
    for first, end in sorted(spans):
        if at < first:
            lengths.append(first - at)
        lengths.append(end - first)
        at = end
    if at < many:
        lengths.append(many - at)
    return tuple(lengths)


def case_of(found, size, rows):
    """The case of a break, for a size and a number of rows that it has."""
    values = solve_break(found, size, rows)
    done, more = form_value(found.start.done, values), form_value(found.start.more, values)
    spans = {"done": [], "more": []}
    if found.sealed is not None:
        region, first, end = sealed_span(found, values)
        spans[region].append((first, end))
    if found.group is not None:
        region, first, end = group_span(found, values, done)
        if (first, end) not in spans[region]:
            spans[region].append((first, end))
    return (size, values[NEXT], lengths_of(done, spans["done"]), lengths_of(more, spans["more"]),
            form_value(found.start.own, values))
