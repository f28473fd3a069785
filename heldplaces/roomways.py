"""All ways through a room text, for all sizes and numbers at once.

A class that comes from bits is told by the sum whose bits were asked and what was put to them, any other one by a row.
That bits are at most some number is told by a bound of the sum, so that bits are no name.
"""

from heldplaces.codelines import step_on
from heldplaces.roomnames import number_row, one_row
from heldplaces.searching import can_hold
from heldplaces.wholerows import added, is_constant, minus, negated, times_row, with_more


class Bits:
    """A class that comes from bits: those of a sum, and a number more."""

    def __init__(self, row, more):
        self.row = row
        self.more = more


class RoomWay:
    """A way through a room text up to a line, for all cases for which its rows hold."""

    def __init__(self, line, rows, forms, is_looking):
        self.line = line
        self.rows = rows
        self.forms = forms
        self.is_looking = is_looking


class RoomEnd:
    """An end of a way: the rows for which it comes up, and its class, None where the play is beyond."""

    def __init__(self, rows, number, is_looking):
        self.rows = rows
        self.number = number
        self.is_looking = is_looking


def most_bits(bits, number):
    """The row that is 0 or more exactly if a class from bits is at most a number."""
    many = number - bits.more
    if many < 0:
        return number_row(-1)
    return minus(number_row((1 << many) - 1), bits.row)


def at_most(form, number):
    """The row that is 0 or more exactly if a class is at most a number."""
    if isinstance(form, Bits):
        return most_bits(form, number)
    return minus(number_row(number), form)


def at_least(form, number):
    """The row that is 0 or more exactly if a class is a number or more."""
    return negated(at_most(form, number - 1))


def term_form(way, term):
    """What a term of a sum stands for."""
    return number_row(term) if isinstance(term, int) else way.forms[term]


def sum_form(way, terms):
    """What a sum stands for: a row, or bits and a number more."""
    total = number_row(0)
    bits = None
    for sign, term in terms:
        form = term_form(way, term)
        if isinstance(form, Bits):
            bits = form
        else:
            total = added(total, form, sign)
    return total if bits is None else Bits(bits.row, bits.more + total[-1])


def bits_sides(bits, sign, number, is_left):
    """The lists of rows for which a class from bits compares with a number, and for which it does not."""
    if sign == "is":
        low, high = at_least(bits, number), at_most(bits, number)
        return [[low, high]], [[negated(low)], [negated(high)]]
    if is_left:
        row = at_most(bits, number if sign == "<=" else number - 1)
    else:
        row = at_least(bits, number if sign == "<=" else number + 1)
    return [[row]], [[negated(row)]]


def row_sides(left, sign, right):
    """The lists of rows for which two rows compare, and for which they do not."""
    apart = minus(right, left)
    if sign == "is":
        back = times_row(apart, -1)
        return [[apart, back]], [[with_more(apart, -1)], [with_more(back, -1)]]
    row = apart if sign == "<=" else with_more(apart, -1)
    return [[row]], [[negated(row)]]


def part_sides(way, part):
    """The lists of rows for which a part of a test holds, and for which it does not."""
    wanted, sign, left, right = part
    one, two = term_form(way, left), term_form(way, right)
    if isinstance(one, Bits):
        sides = bits_sides(one, sign, two[-1], True)
    elif isinstance(two, Bits):
        sides = bits_sides(two, sign, one[-1], False)
    else:
        sides = row_sides(one, sign, two)
    return sides if wanted else (sides[1], sides[0])


def open_rows(rows):
    """The rows that do not hold anyway; None if one cannot hold."""
    for row in rows:
        if is_constant(row) and row[-1] < 0:
            return None
    return [row for row in rows if not is_constant(row)]


def narrowed(way, rows):
    """The way for the cases for which these rows hold as well, or None if there is none."""
    left = open_rows(rows)
    if left is None:
        return None
    found = RoomWay(way.line, way.rows + left, dict(way.forms), way.is_looking)
    return found if not left or can_hold([], found.rows) else None


def narrowed_all(way, lists):
    """The ways for each of several lists of rows, without those that have no case."""
    found = [narrowed(way, rows) for rows in lists]
    return [one for one in found if one is not None]


def test_ways(way, parts):
    """The ways on which a test holds, and those on which it does not."""
    holding, failing = [way], []
    for part in parts:
        ahead = []
        for one in holding:
            sides = part_sides(one, part)
            ahead.extend(narrowed_all(one, sides[0]))
            failing.extend(narrowed_all(one, sides[1]))
        holding = ahead
    return holding, failing


def divided(way, form, number, name):
    """The way with a quotient in the place of a sum: a name of its own, where the sum has no whole one."""
    if is_constant(form) or not any([worth % number for worth in form]):
        return way, tuple([worth // number for worth in form])
    rest = added(form, one_row(name), -number)
    rows = way.rows + [rest, minus(number_row(number - 1), rest)]
    return RoomWay(way.line, rows, way.forms, way.is_looking), one_row(name)


def set_name(way, name, form):
    """The way with a name that stands for another form."""
    forms = dict(way.forms)
    forms[name] = form
    return RoomWay(way.line, way.rows, forms, way.is_looking)


def set_ways(way, form, quotient, ends):
    """The ways on which a way goes on behind a line that sets a name."""
    total = sum_form(way, form[2])
    if form[0] == "set":
        return [set_name(way, form[1], total)]
    if form[0] == "divide":
        found, total = divided(way, total, form[3], quotient)
        return [set_name(found, form[1], total)]
    for one in narrowed_all(way, [[negated(total)]]):
        ends.append(RoomEnd(one.rows, None, False))
    return [set_name(one, "class", Bits(total, 0)) for one in narrowed_all(way, [[total]])]


def end_way(way, top, ends):
    """Notes the ends of a way: done, or beyond by a class below 0 or above top."""
    number = way.forms["class"]
    for rows in ([at_most(number, -1)], [at_least(number, top + 1)]):
        for one in narrowed_all(way, [rows]):
            ends.append(RoomEnd(one.rows, None, False))
    for one in narrowed_all(way, [[at_least(number, 0), at_most(number, top)]]):
        ends.append(RoomEnd(one.rows, number, way.is_looking))


def at_line(ways, line):
    """The ways, each of which goes on at a line."""
    return [RoomWay(line, way.rows, way.forms, way.is_looking) for way in ways]


def follow(way, text, top, quotient, ends):
    """The ways on which a way goes on behind its next line."""
    line = step_on(text.forms, text.jumps, way.line)
    if line > len(text.forms) or text.forms[line - 1][0] == "quit":
        end_way(way, top, ends)
        return []
    form = text.forms[line - 1]
    if form[0] == "if":
        holding, failing = test_ways(way, form[1])
        return at_line(failing, text.jumps[line]) + at_line(holding, line + 1)
    if form[0] == "look":
        return [RoomWay(line + 1, way.rows, way.forms, True)]
    return at_line(set_ways(way, form, quotient, ends), line + 1)


def find_ends(text, top, forms, rows, quotient):
    """All ends of ways through a text, for the cases for which the rows hold, with what its names stand for."""
    start = {"top": number_row(top), "class": number_row(0), "a": number_row(0), "b": number_row(0)}
    start.update(forms)
    ends = []
    work = [RoomWay(1, list(rows), start, False)] if can_hold([], rows) else []
    while work:
        way = work.pop()
        work.extend(follow(way, text, top, quotient, ends))
    return ends
