"""What is known of the numbers of a question about ids: their ends, rows, and quotients."""

from heldplaces.idnames import QUOTIENTS, WIDTH, number_row, one_row
from heldplaces.points import has_point, used_columns
from heldplaces.wholerows import added, common_factor, minus, times_row, with_more


class Frame:
    """Lows and highs are the ends of names, None for no end; equals are rows that are 0, rows are 0 or more.

    Quotients has the forms of divisions that were met, used tells how many of the names for quotients are.
    """

    def __init__(self, lows, highs, equals=(), rows=(), quotients=None, used=0):
        self.lows = lows
        self.highs = highs
        self.equals = equals
        self.rows = rows
        self.quotients = {} if quotients is None else quotients
        self.used = used


def empty_frame():
    """A frame in which each name is 0."""
    return Frame((0,) * WIDTH, (0,) * WIDTH)


def with_ends(frame, name, low, high):
    """A frame with other ends of a name."""
    lows = frame.lows[:name] + (low,) + frame.lows[name + 1:]
    highs = frame.highs[:name] + (high,) + frame.highs[name + 1:]
    return Frame(lows, highs, frame.equals, frame.rows, frame.quotients, frame.used)


def with_rows(frame, rows, equals=()):
    """A frame with more rows and equalities."""
    return Frame(frame.lows, frame.highs, frame.equals + tuple(equals), frame.rows + tuple(rows),
                 frame.quotients, frame.used)


def least_end(ends):
    """The least of several first ends, None for no end."""
    return None if None in ends else min(ends)


def greatest_end(ends):
    """The greatest of several last ends, None for no end."""
    return None if None in ends else max(ends)


def least_of(frame, row):
    """What a row is at least, by the ends of its names; None for no end."""
    total = row[-1]
    for at in used_columns([row]):
        end = frame.lows[at] if row[at] > 0 else frame.highs[at]
        if end is None:
            return None
        total = total + row[at] * end
    return total


def greatest_of(frame, row):
    """What a row is at most, by the ends of its names; None for no end."""
    least = least_of(frame, times_row(row, -1))
    return None if least is None else -least


def surely_holds(frame, row):
    """Whether a row is 0 or more by the ends of its names."""
    least = least_of(frame, row)
    return least is not None and least >= 0


def surely_fails(frame, row):
    """Whether a row is below 0 by the ends of its names."""
    greatest = greatest_of(frame, row)
    return greatest is not None and greatest < 0


def end_rows(frame, columns):
    """The rows of the ends of names."""
    found = []
    for at in columns:
        if frame.lows[at] is not None:
            found.append(one_row(at, 1, -frame.lows[at]))
        if frame.highs[at] is not None:
            found.append(one_row(at, -1, frame.highs[at]))
    return found


def all_rows(frame):
    """The rows of a frame, with those of the ends of the names that stand in some row."""
    told = list(frame.equals) + list(frame.rows)
    return list(frame.rows) + end_rows(frame, used_columns(told) if told else [])


def can_be(frame):
    """Whether there are numbers for a frame."""
    if not frame.equals and not frame.rows:
        return True
    return has_point(list(frame.equals), all_rows(frame))


def narrowed(frame, rows, equals=()):
    """A frame for the cases for which these hold as well, or None if there are none."""
    if any([surely_fails(frame, row) for row in rows]):
        return None
    for row in equals:
        if surely_fails(frame, row) or surely_fails(frame, times_row(row, -1)):
            return None
    left = [row for row in rows if not surely_holds(frame, row)]
    if not left and not equals:
        return frame
    found = with_rows(frame, left, equals)
    return found if can_be(found) else None


def parted(form, number, is_near):
    """A form as so many times the number and a rest; is_near: with worths near 0, and not all from 0 on."""
    whole = []
    for worth in form:
        times = worth // number
        if is_near and 2 * (worth - times * number) > number:
            times = times + 1
        whole.append(times)
    return tuple(whole), tuple([worth - number * times for worth, times in zip(form, whole)])


def simple_rest(rest, number):
    """A rest and a number that leave the same quotient, without a factor that all names have."""
    factor = common_factor(rest[:-1] + (number,))
    return tuple([worth // factor for worth in rest]), number // factor


def quotient_ends(frame, rest, number):
    """What the quotient of a rest is at least and at most, None for no end."""
    least, greatest = least_of(frame, rest), greatest_of(frame, rest)
    return (None if least is None else least // number), (None if greatest is None else greatest // number)


def new_quotient(frame, form, number):
    """The frame with a name for the quotient of a form, if it needs one, and the form of the quotient."""
    best = None
    for is_near in (False, True):
        whole, rest = parted(form, number, is_near)
        rest, divisor = simple_rest(rest, number)
        low, high = quotient_ends(frame, rest, divisor)
        if low is not None and low == high:
            return frame, with_more(whole, low)
        if best is None or low is not None and high is not None and (best[3] is None or high - low < best[3]):
            best = (whole, rest, divisor, None if low is None or high is None else high - low, low, high)
    whole, rest, divisor, _, low, high = best
    name = QUOTIENTS + frame.used
    left = added(rest, one_row(name), -divisor)
    found = with_ends(with_rows(frame, [left, minus(number_row(divisor - 1), left)]), name, low, high)
    found.used = frame.used + 1
    return found, added(whole, one_row(name))


def quotient_of(frame, form, number):
    """The frame in which a form can be divided, and the form of the quotient. The same division is met once."""
    key = (form, number)
    if key in frame.quotients:
        return frame, frame.quotients[key]
    found, quotient = new_quotient(frame, form, number)
    quotients = {one: frame.quotients[one] for one in frame.quotients}
    quotients[key] = quotient
    return Frame(found.lows, found.highs, found.equals, found.rows, quotients, found.used), quotient


def reckoned(frame, form, sign, number):
    """The frame and the form that a sum gives with a sign and a number."""
    if sign == "":
        return frame, form
    if sign == "*":
        return frame, times_row(form, number)
    found, quotient = quotient_of(frame, form, number)
    return found, (quotient if sign == "//" else added(form, quotient, -number))
