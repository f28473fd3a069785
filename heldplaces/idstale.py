"""What breaks stale: looks that accept an id whose place was brought back, for whichever place in whichever life.

The stamp that such a look sees is one name at first. Only where some stamp is accepted, the runs of lives are gone
through that the place can be in.
"""

from heldplaces.idbreaks import offer_ends, same_place
from heldplaces.idframes import Frame, can_be, narrowed, with_ends
from heldplaces.idlooks import Seen, Walk, arrivals, walk_on
from heldplaces.idnames import LIFE, OTHER_LIFE, PAGE, SLOT, number_row, one_row
from heldplaces.idsurvey import apart_rows, first_gives, in_turn, is_answered, is_too_many, offer, there_rows
from heldplaces.wholerows import added, minus, with_more


class State:
    """Lives in which a place can be: a gift, the lives ahead of its run, and rows that its lives keep to."""

    def __init__(self, gift, first, rows):
        self.gift = gift
        self.first = first
        self.rows = rows


def states_of(survey, at):
    """The states of the places of a region, lent in some life or brought back behind it."""
    return [State(gift, gift.run.first, []) for gift in survey.gifts[at]]


def later_states(survey, at, k, is_lent):
    """The states of a place behind a life of the run k: lent in a later one, or brought back behind any from it on."""
    gifts, back = survey.gifts[at], survey.rows[at].back
    ahead = one_row(OTHER_LIFE, 1, -1 if is_lent else 0)
    found = [State(gifts[k], gifts[k].run.first, [minus(ahead, one_row(LIFE))])]
    found.extend([State(gift, gift.run.first, []) for gift in gifts[k + 1:]])
    if back is not None and back <= k:
        last = gifts[-1].run
        period = last.first + last.many - gifts[back].run.first
        found.extend([State(gift, gift.run.first + period, []) for gift in gifts[back:k + 1]])
    return found


def stamp_row(state, is_lent):
    """The stamp of a state, by the life in its run."""
    return state.gift.lent if is_lent else state.gift.freed


def stamp_ends(state, is_lent):
    """The least and the greatest stamp of a state, None for no end."""
    row, many = stamp_row(state, is_lent), state.gift.run.many
    step, start = row[LIFE], row[-1]
    if step == 0:
        return start, start
    end = None if many is None else start + step * (many - 1)
    return (start, end) if step > 0 else (end, start)


def all_ends(states, is_lent):
    """The least and the greatest stamp of several states, None for no end."""
    ends = [stamp_ends(state, is_lent) for state in states]
    lows = [low for low, _ in ends]
    highs = [high for _, high in ends]
    return (None if None in lows else min(lows)), (None if None in highs else max(highs))


def put_stamp(row, stamp):
    """A row with a stamp of a life in the place of the one name for it."""
    times = row[OTHER_LIFE]
    if times == 0:
        return row
    found = row[:OTHER_LIFE] + (times * stamp[LIFE],) + row[OTHER_LIFE + 1:]
    return with_more(found, times * stamp[-1])


def in_state(frame, state, is_lent):
    """A frame with the lives of a state in the place of the one name for the stamp."""
    stamp, many = stamp_row(state, is_lent), state.gift.run.many
    found = with_ends(frame, OTHER_LIFE, 0, None if many is None else many - 1)
    equals = tuple([put_stamp(row, stamp) for row in frame.equals])
    rows = tuple([put_stamp(row, stamp) for row in frame.rows])
    return Frame(found.lows, found.highs, equals, rows + tuple(state.rows))


def state_gives(state, gives):
    """The gives behind which a look sees a state, where so many were made at other places."""
    return added(gives, one_row(OTHER_LIFE, 1, state.first + 1))


def offer_states(survey, walk, frame, states, is_lent, gives):
    """Notes the breaks by looks that see a place in one of several states, lent or not."""
    news = [state for state in states if not is_too_many(survey, state_gives(state, gives)[-1])]
    if not news or is_answered(survey):
        return
    low, high = all_ends(news, is_lent)
    some = Walk(walk.line, with_ends(frame, OTHER_LIFE, low, high), walk.names)
    for end in walk_on(survey.ids.look, some, Seen(one_row(OTHER_LIFE), is_lent)):
        if end.ended != "accept" or not can_be(end.frame):
            continue
        for state in news:
            row = state_gives(state, gives)
            if not is_answered(survey) and not is_too_many(survey, row[-1]):
                offer(survey, in_state(end.frame, state, is_lent), row)


def offer_later(survey, walk, at, k):
    """Notes the breaks by looks that name the place of the id itself."""
    frame = same_place(walk)
    if frame is not None:
        for is_lent in (False, True):
            offer_states(survey, walk, frame, later_states(survey, at, k, is_lent), is_lent, number_row(0))


def other_frames(survey, walk, at, other):
    """The frames in which a walk names a place of another region, or another place of the same one."""
    page, slot = walk.names["page"], walk.names["slot"]
    region = survey.regions[other]
    rows = there_rows(survey, page, slot)
    rows = rows + [with_more(page, -region.pages[0]), minus(number_row(region.pages[1]), page)]
    rows.append(with_more(slot, -region.slots[0]))
    if region.slots[1] is not None:
        rows.append(minus(number_row(region.slots[1]), slot))
    there = narrowed(walk.frame, rows)
    if there is None:
        return []
    if other != at:
        return [there]
    found = [narrowed(there, [row]) for row in apart_rows(one_row(PAGE), one_row(SLOT), page, slot)]
    return [frame for frame in found if frame is not None]


def names_itself(walk):
    """Whether a walk names the place of the id, whichever it is."""
    return walk.names["page"] == one_row(PAGE) and walk.names["slot"] == one_row(SLOT)


def offer_others(survey, walk, at, gift):
    """Notes the breaks by looks that name another place than that of the id."""
    if names_itself(walk):
        return
    gives = first_gives(gift)
    for other in range(len(survey.regions)):
        states = states_of(survey, other)
        for frame in other_frames(survey, walk, at, other):
            offer_ends(survey, walk, frame, Seen(number_row(0), False), "accept", gives)
            for is_lent in (False, True):
                offer_states(survey, walk, frame, states, is_lent, gives)


def note_stale(survey):
    """The breaks of stale."""
    for first, at, k in in_turn(survey):
        if is_answered(survey) or is_too_many(survey, first + 1):
            return
        gift = survey.gifts[at][k]
        walks, _ = arrivals(survey.ids.look, gift)
        for walk in walks:
            offer_later(survey, walk, at, k)
            offer_others(survey, walk, at, gift)
