"""How ways through a book code begin, and where they fork.

Of groups only the sums of their rows are told at first: a length that is sealed, and that of a group that is owed,
become names where they are asked for.
"""

from heldplaces.booknames import NEXT, OTHER, ROWS, SIZE, keep_row, number_row, one_row
from heldplaces.searching import can_hold
from heldplaces.wholerows import added, is_constant, minus, negated, times_row, with_more


class BookWay:
    """A way through a book code up to a line, for all cases for which its rows hold.

    Forms are rows for what names stand for. Start is the way's BookStart. Sealed tells where a sealed length was
    found, as (region, side, offset), written the place of the row that was written, moved the pair of the place ahead
    of which or at which rows were taken back or done again, and how many; each is None as long as there is none.
    """

    def __init__(self, line, rows, forms, start):
        self.line = line
        self.rows = rows
        self.forms = forms
        self.start = start
        self.sealed = None
        self.written = None
        self.moved = None
        self.is_changed = False


class BookStart:
    """How many rows are done in closed groups, of the open group, and undone, and the place that is marked at first."""

    def __init__(self, done, own, more, mark):
        self.done = done
        self.own = own
        self.more = more
        self.mark = mark


def branch(way, rows=()):
    """A way like this one, for fewer cases."""
    found = BookWay(way.line, way.rows + tuple(rows), dict(way.forms), way.start)
    found.sealed = way.sealed
    found.written = way.written
    found.moved = way.moved
    found.is_changed = way.is_changed
    return found


def narrowed(way, rows):
    """The way for the cases for which these rows hold as well, or None if there is none."""
    if any([is_constant(row) and row[-1] < 0 for row in rows]):
        return None
    found = branch(way, [row for row in rows if not is_constant(row)])
    return found if can_hold([], found.rows) else None


def fork_at(way, row):
    """The ways on which a row is 0 or more, and on which it is not; None for a way without cases.

    A row that holds anyway is not put to a way, so that its rows stay few.
    """
    if is_constant(row):
        return (way, None) if row[-1] >= 0 else (None, way)
    fails = narrowed(way, [negated(row)])
    if fails is None:
        return way, None
    return narrowed(way, [row]), fails


def fork_equal(way, row):
    """The ways on which a row is 0 (or None), and the list of those on which it is not."""
    if is_constant(row):
        return (way, []) if row[-1] == 0 else (None, [way])
    back = times_row(row, -1)
    sides = [narrowed(way, [with_more(row, -1)]), narrowed(way, [with_more(back, -1)])]
    others = [side for side in sides if side is not None]
    if not others:
        return way, []
    return narrowed(way, [row, back]), others


def there(ways):
    """The ways without those that have no case."""
    return [way for way in ways if way is not None]


def rules_rows(rules):
    """What sizes in use, places and numbers of rows keep to."""
    keep = keep_row(rules)
    return (
        one_row(SIZE, 1, -1),
        with_more(keep, -1),
        minus(one_row(SIZE), keep),
        one_row(NEXT),
        with_more(minus(one_row(SIZE), one_row(NEXT)), -1),
        minus(keep, one_row(ROWS)),
        minus(one_row(ROWS), one_row(OTHER)),
    )


def start_way(rules, rows, start):
    """The way that begins so, for the cases for which rows hold."""
    forms = {
        "size": one_row(SIZE),
        "keep": keep_row(rules),
        "next": one_row(NEXT),
        "many": added(start.done, start.own),
        "more": start.more,
        "own": start.own,
        "mark": start.mark,
        "a": number_row(0),
        "b": number_row(0),
        "c": number_row(0),
    }
    some = [row for row in rules_rows(rules) + tuple(rows) if not is_constant(row) or row[-1] < 0]
    return BookWay(1, tuple(some), forms, start)


def start_ways(kind, rules):
    """All beginnings of ways through a code of a kind."""
    other, done, none = one_row(OTHER), minus(one_row(ROWS), one_row(OTHER)), number_row(0)
    found = [start_way(rules, [other], BookStart(done, none, other, one_row(NEXT)))]
    if kind in ("note", "fail"):
        apart = minus(one_row(NEXT), other)
        some = with_more(other, -1)
        found.append(start_way(rules, [some, apart], BookStart(done, other, none, apart)))
        around = added(apart, one_row(SIZE))
        found.append(start_way(rules, [some, negated(apart)], BookStart(done, other, none, around)))
    return [way for way in found if can_hold([], way.rows)]


def term_form(way, term):
    """What a term of a sum stands for."""
    return number_row(term) if isinstance(term, int) else way.forms[term]


def sum_form(way, terms):
    """What a sum stands for."""
    total = number_row(0)
    for sign, term in terms:
        total = added(total, term_form(way, term), sign)
    return total


def wrapped_ways(way, form):
    """The pairs of a way and the form that a form is there, going round once at most; it need be no place."""
    below, least = fork_at(way, with_more(minus(one_row(SIZE), form), -1))
    found = [] if least is None else [(least, minus(form, one_row(SIZE)))]
    if below is not None:
        level, negative = fork_at(below, form)
        found.extend([] if negative is None else [(negative, added(form, one_row(SIZE)))])
        found.extend([] if level is None else [(level, form)])
    return found


def part_ways(way, part):
    """The lists of the ways on which a part of a test holds, and does not."""
    wanted, sign, left, right = part
    apart = minus(term_form(way, right), term_form(way, left))
    if sign == "is":
        same, others = fork_equal(way, apart)
        sides = there([same]), others
    else:
        holds, fails = fork_at(way, apart if sign == "<=" else with_more(apart, -1))
        sides = there([holds]), there([fails])
    return sides if wanted else (sides[1], sides[0])


def test_ways(way, parts):
    """The ways on which a test holds, and those on which it does not."""
    holding, failing = [way], []
    for part in parts:
        ahead = []
        for one in holding:
            sides = part_ways(one, part)
            ahead.extend(sides[0])
            failing.extend(sides[1])
        holding = ahead
    return holding, failing
