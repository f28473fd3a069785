"""The row of stamps of a place, life by life, with many lives counted at once.

A life leads from a stamp x to x and a number, or to a number alone, and does so for all x of a stretch. So a row is
made of runs in which the stamp gets more (or less) by the same each time, until a run begins with a stamp with
which another one began.
"""

from heldplaces.codelines import step_on
from heldplaces.pagedesk import compare


class Span:
    """The stamps from low to high (None: no end), around one of them, and what is their stamp now.

    It is x + number for a stamp x at first, or number alone if it does not move with x.
    """

    def __init__(self, around):
        self.around = around
        self.low = 0
        self.high = None
        self.moves = True
        self.number = 0
        self.is_retired = False


def stamp_now(span):
    """The stamp now of the stamp around which a span lies."""
    return span.around + span.number if span.moves else span.number


def narrow(span, low, high):
    """Leaves of a span the stamps that are now from low to high; None stands for no end."""
    if not span.moves:
        return
    if low is not None:
        span.low = max(span.low, low - span.number)
    if high is not None:
        end = high - span.number
        span.high = end if span.high is None else min(span.high, end)


def take_rest(span, factor):
    """Takes the rest of the stamp; it is the same quotient for all stamps that stay in the span."""
    times = stamp_now(span) // factor
    narrow(span, times * factor, times * factor + factor - 1)
    span.number = span.number - times * factor


def narrow_beside(span, number):
    """Leaves of a span the stamps that are now all below a number, all above it, or the number."""
    now = stamp_now(span)
    if now < number:
        narrow(span, None, number - 1)
    elif now > number:
        narrow(span, number + 1, None)
    else:
        narrow(span, number, number)


def side_value(span, place, term):
    """What a side of a comparison is: a number, page, slot or the stamp."""
    if isinstance(term, int):
        return term
    if term == "stamp":
        return stamp_now(span)
    return place[0] if term == "page" else place[1]


def span_holds(span, place, parts):
    """Whether a test holds, for the stamps that it leaves in the span."""
    for wanted, sign, left, right in parts:
        first, second = side_value(span, place, left), side_value(span, place, right)
        if left == "stamp":
            narrow_beside(span, second)
        elif right == "stamp":
            narrow_beside(span, first)
        if compare(first, sign, second) != wanted:
            return False
    return True


def step_span(span, form):
    """What a line besides ifs does to the stamps of a span."""
    if form[0] == "more":
        span.number = span.number + form[1]
    elif form[0] == "stamp":
        span.moves = False
        span.number = form[1]
    elif form[0] == "rest":
        take_rest(span, form[1])
    elif form[0] == "retire":
        span.is_retired = True


def play_span(code, place, span):
    """Plays a give or a free for all stamps that it leaves in a span."""
    line = step_on(code.forms, code.jumps, 1)
    while line <= len(code.forms):
        form = code.forms[line - 1]
        if form[0] == "quit":
            return
        ahead = line + 1
        if form[0] == "if" and not span_holds(span, place, form[1]):
            ahead = code.jumps[line]
        step_span(span, form)
        line = step_on(code.forms, code.jumps, ahead)


class Run:
    """Lives from a first one on, so many (None: no end), whose free stamps are each more by a step."""

    def __init__(self, first, stamp, many, step):
        self.first = first
        self.stamp = stamp
        self.many = many
        self.step = step


class StampRow:
    """The runs of a place. Behind the last one it is retired, or goes on with the run `back`."""

    def __init__(self, runs, lives, back):
        self.runs = runs
        self.lives = lives
        self.back = back


def span_lives(span):
    """How many lives go on as the stamps of a span do, from the one around which it lies: None for no end."""
    if span.is_retired or not span.moves:
        return 1
    if span.number > 0:
        return None if span.high is None else (span.high - span.around) // span.number + 1
    return None if span.number == 0 else (span.around - span.low) // -span.number + 1


def stamp_row(give, free, place):
    """The row of stamps of a place."""
    runs = []
    starts = {}
    life, stamp = 0, 0
    while stamp not in starts:
        starts[stamp] = len(runs)
        span = Span(stamp)
        play_span(give, place, span)
        play_span(free, place, span)
        step = stamp_now(span) - stamp
        many = span_lives(span)
        runs.append(Run(life, stamp, many, step))
        if span.is_retired:
            return StampRow(runs, life + 1, None)
        if many is None:
            return StampRow(runs, None, None)
        life = life + many
        stamp = stamp + many * step
    return StampRow(runs, None, starts[stamp])


def run_at(runs, life):
    """The run to which a life belongs."""
    low, high = 0, len(runs) - 1
    while low < high:
        middle = (low + high + 1) // 2
        if runs[middle].first <= life:
            low = middle
        else:
            high = middle - 1
    return runs[low]


def free_stamp_at(row, life):
    """The stamp of a place ahead of a life, or None if it was retired before."""
    if row.lives is not None and life >= row.lives:
        return None
    if row.back is not None:
        first = row.runs[row.back].first
        end = row.runs[-1].first + row.runs[-1].many
        if life >= end:
            life = first + (life - first) % (end - first)
    run = run_at(row.runs, life)
    return run.stamp + (life - run.first) * run.step
