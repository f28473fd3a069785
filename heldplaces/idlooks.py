"""All ways through a look at the ids of a gift. Up to the first line that asks for the place, all states are alike."""

from heldplaces.codelines import step_on
from heldplaces.idframes import narrowed, reckoned
from heldplaces.idgifts import sum_row
from heldplaces.idlimits import asks_place
from heldplaces.idnames import number_row
from heldplaces.wholerows import minus, negated, times_row, with_more


class Walk:
    """A way through a look up to a line, for all cases of a frame, with the rows for which names stand."""

    def __init__(self, line, frame, names):
        self.line = line
        self.frame = frame
        self.names = names


class Seen:
    """What a look sees of the place that page and slot name: the row of its stamp, None for no place; if it is lent."""

    def __init__(self, stamp, is_lent):
        self.stamp = stamp
        self.is_lent = is_lent


class LookEnd:
    """An end of a way: a frame, and "accept", "refuse" or "beyond"."""

    def __init__(self, walk, ended):
        self.frame = walk.frame
        self.names = walk.names
        self.ended = ended


def start_walk(gift):
    """A look at the ids of a gift at its beginning."""
    none, away = number_row(0), number_row(-1)
    names = {"word": gift.word, "page": away, "slot": away, "a": none, "b": none, "c": none}
    return Walk(1, gift.frame, names)


def term_row(walk, term, seen):
    """What a term of a test stands for; None for the stamp of no place."""
    if isinstance(term, int):
        return number_row(term)
    return seen.stamp if term == "stamp" else walk.names[term]


def compared(frame, left, sign, right):
    """The lists of frames in which two rows compare, and in which they do not."""
    apart = minus(right, left)
    if sign == "is":
        sides = [with_more(apart, -1), with_more(times_row(apart, -1), -1)]
        holds = [narrowed(frame, [], [apart])]
        fails = [narrowed(frame, [row]) for row in sides]
    else:
        row = apart if sign == "<=" else with_more(apart, -1)
        holds = [narrowed(frame, [row])]
        fails = [narrowed(frame, [negated(row)])]
    return [one for one in holds if one is not None], [one for one in fails if one is not None]


def part_frames(walk, frame, part, seen):
    """The lists of frames in which a part of a test holds, and in which it does not; None where it is beyond."""
    wanted, sign, left, right = part
    if sign == "lent":
        sides = ([frame], []) if seen.is_lent else ([], [frame])
    else:
        one, two = term_row(walk, left, seen), term_row(walk, right, seen)
        if one is None or two is None:
            return None
        sides = compared(frame, one, sign, two)
    return sides if wanted else (sides[1], sides[0])


def test_frames(walk, parts, seen):
    """The lists of frames in which a test holds, in which it does not, and in which it is beyond."""
    holding, failing, beyond = [walk.frame], [], []
    for part in parts:
        ahead = []
        for frame in holding:
            sides = part_frames(walk, frame, part, seen)
            if sides is None:
                beyond.append(frame)
                continue
            ahead.extend(sides[0])
            failing.extend(sides[1])
        holding = ahead
    return holding, failing, beyond


def walks_at(walk, frames, line):
    """The walks that go on from a line, in several frames."""
    return [Walk(line, frame, walk.names) for frame in frames]


def reckon(walk, form, seen):
    """The walk behind a line that sets a name, or None where it is beyond."""
    names = dict(walk.names)
    if seen is not None:
        names["stamp"] = seen.stamp
        if seen.stamp is None and "stamp" in [term for _, term in form[2]]:
            return None
    frame, names[form[1]] = reckoned(walk.frame, sum_row(names, form[2]), form[3], form[4])
    return Walk(walk.line + 1, frame, names)


def follow(look, walk, seen, ends):
    """The walks on which a walk goes on behind its next line. Seen is None up to the line that asks for the place."""
    walk = Walk(step_on(look.forms, look.jumps, walk.line), walk.frame, walk.names)
    line = walk.line
    form = ("refuse",) if line > len(look.forms) else look.forms[line - 1]
    if form[0] == "refuse":
        ends.append(LookEnd(walk, "refuse"))
        return []
    if seen is None and (form[0] == "accept" or asks_place(form)):
        ends.append(walk)
        return []
    if form[0] == "accept":
        ends.append(LookEnd(walk, "beyond" if seen.stamp is None else "accept"))
        return []
    if form[0] == "if":
        holding, failing, beyond = test_frames(walk, form[1], seen)
        ends.extend([LookEnd(one, "beyond") for one in walks_at(walk, beyond, line)])
        return walks_at(walk, failing, look.jumps[line]) + walks_at(walk, holding, line + 1)
    found = reckon(walk, form, seen)
    if found is None:
        ends.append(LookEnd(walk, "beyond"))
        return []
    return [found]


def walk_on(look, start, seen):
    """All ends of ways from a walk on. Where seen is None, they are walks where the place is asked for, too."""
    ends = []
    work = [start]
    while work:
        walk = work.pop()
        work.extend(follow(look, walk, seen, ends))
    return ends


def arrivals(look, gift):
    """The walks at the first line that asks for the place, and the ends ahead of any such line."""
    ends = walk_on(look, start_walk(gift), None)
    walks = [one for one in ends if isinstance(one, Walk)]
    return walks, [one for one in ends if isinstance(one, LookEnd)]
