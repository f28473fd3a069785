"""Leaving out rows that other rows imply, so that rows stay few while names are struck out.

A row is implied if it is a sum of other rows, each taken some times, and of a number from 0 on: the least last number
of such a sum is sought by going from corner to corner. All numbers of a table have the same divisor, so that they
stay whole.
"""

from heldplaces.wholerows import Bounds

MOST_ROWS = 30


class Table:
    """Equations of how often rows are taken, with the row of costs last.

    Basis tells for each equation which row it tells, -1 at first. All numbers are to be divided by the divisor.
    """

    def __init__(self, equations, costs):
        self.equations = equations
        self.costs = costs
        self.basis = [-1] * len(equations)
        self.divisor = 1


def table_for(rows, target, width):
    """The table of the sums of rows that are the target but for its last number."""
    lines = []
    for at in range(width):
        sign = -1 if target[at] < 0 else 1
        line = [sign * row[at] for row in rows] + [sign * target[at]]
        if any(line):
            lines.append(line)
    return Table(lines, [row[-1] for row in rows] + [0])


def turned(line, pivot_line, at, divisor):
    """A line of a table behind a turn."""
    worth, pivot = line[at], pivot_line[at]
    if worth == 0:
        return [one * pivot // divisor for one in line]
    return [(one * pivot - worth * two) // divisor for one, two in zip(line, pivot_line)]


def turn(table, line_at, at):
    """Goes to the next corner: an equation tells another row from now on."""
    pivot_line = table.equations[line_at]
    for k in range(len(table.equations)):
        if k != line_at:
            table.equations[k] = turned(table.equations[k], pivot_line, at, table.divisor)
    table.costs = turned(table.costs, pivot_line, at, table.divisor)
    table.divisor = pivot_line[at]
    table.basis[line_at] = at


def leaving_line(table, at):
    """The equation that tells another row if the one at a place is taken more often, or None."""
    found = None
    for k, line in enumerate(table.equations):
        if line[at] <= 0:
            continue
        if found is None:
            found = k
            continue
        best = table.equations[found]
        apart = line[-1] * best[at] - best[-1] * line[at]
        if apart < 0 or apart == 0 and table.basis[k] < table.basis[found]:
            found = k
    return found


def open_lines(table):
    """The equations that tell no row yet."""
    return [line for line, told in zip(table.equations, table.basis) if told == -1]


def entering_open(table):
    """A row by which what is left of the open equations gets less, or None."""
    lines = open_lines(table)
    for at in range(len(table.costs) - 1):
        if sum([line[at] for line in lines]) > 0:
            return at
    return None


def find_corner(table):
    """Goes to a corner at which all equations hold. False if there is none."""
    while sum([line[-1] for line in open_lines(table)]) > 0:
        at = entering_open(table)
        if at is None:
            return False
        turn(table, leaving_line(table, at), at)
    return True


def close_lines(table):
    """Lets the open equations, in which nothing is left, tell rows as well, or leaves them out."""
    k = 0
    while k < len(table.equations):
        line = table.equations[k]
        places = [at for at in range(len(line) - 1) if line[at] != 0]
        if table.basis[k] != -1:
            k = k + 1
        elif places:
            if line[places[0]] < 0:
                table.equations[k] = [-one for one in line]
            turn(table, k, places[0])
        else:
            del table.equations[k]
            del table.basis[k]


def entering_cost(table):
    """A row by which the costs get less, or None."""
    for at in range(len(table.costs) - 1):
        if table.costs[at] < 0:
            return at
    return None


def is_implied(rows, target, width):
    """Whether rows imply a further one, also by broken numbers."""
    table = table_for(rows, target, width)
    if not find_corner(table):
        return False
    close_lines(table)
    while -table.costs[-1] > target[-1] * table.divisor:
        at = entering_cost(table)
        if at is None:
            return False
        line_at = leaving_line(table, at)
        if line_at is None:
            return True
        turn(table, line_at, at)
    return True


def weight_of(row):
    """How great the numbers of a row are."""
    return sum([abs(worth) for worth in row[:-1]])


def pruned(bounds, width):
    """Bounds without rows that the other ones imply, the greatest ones first."""
    rows = [names + (last,) for names, last in bounds.lasts.items()]
    rows = sorted(rows, key=weight_of, reverse=True)
    at = 0
    while at < len(rows):
        if is_implied(rows[:at] + rows[at + 1:], rows[at], width):
            del rows[at]
        else:
            at = at + 1
    found = Bounds()
    found.lasts = {row[:-1]: row[-1] for row in rows}
    return found
