"""How far sums of names can go where rows hold, by broken numbers."""

from heldplaces.pruning import close_lines, entering_cost, find_corner, leaving_line, table_for, turn


def least_sum(rows, names, width):
    """The least value that a sum of names can have, as a pair (number, divisor); None if there is no least one.

    The rows have to hold for some broken numbers.
    """
    table = table_for(rows, names + (0,), width)
    if not find_corner(table):
        return None
    close_lines(table)
    at = entering_cost(table)
    while at is not None:
        line_at = leaving_line(table, at)
        if line_at is None:
            return None
        turn(table, line_at, at)
        at = entering_cost(table)
    return table.costs[-1], table.divisor


def least_whole(rows, names, width):
    """The least whole number that is not below what a sum of names can have, or None."""
    found = least_sum(rows, names, width)
    return None if found is None else -(-found[0] // found[1])


def greatest_whole(rows, names, width):
    """The greatest whole number that is not above what a sum of names can have, or None."""
    found = least_sum(rows, tuple([-worth for worth in names]), width)
    return None if found is None else -found[0] // found[1]
