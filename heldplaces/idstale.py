"""What breaks stale: looks that accept an id whose place was brought back, for whichever place in whichever life.

The stamp that such a look sees is one name at first. Only where some stamp is accepted, the runs of lives are gone
through that the place can be in.
"""

from heldplaces.idbreaks import offer_ends, same_place
from heldplaces.idframes import Frame, can_be, greatest_end, least_end, narrowed, with_ends
from heldplaces.idlooks import Seen, Walk, arrivals, walk_on
from heldplaces.idnames import LIFE, OTHER_LIFE, PAGE, SLOT, number_row, one_row
from heldplaces.idregions import Region
from heldplaces.idsurvey import (
    apart_rows, first_gives, in_turn, is_answered, is_too_many, limited, offer, there_rows)
from heldplaces.wholerows import added, minus, with_more


class State:
    """Lives in which a place can be: a gift, the lives ahead of its run, and rows that its lives keep to."""

    def __init__(self, gift, first, rows):
        self.gift = gift
        self.first = first
        self.rows = rows


def states_of(survey, at):
    """The states of the places of a region, lent in some life or brought back behind it."""
    return [State(gift, gift.run.first, []) for gift in survey.gifts[at]]


def later_states(survey, at, k, is_lent):
    """The states of a place behind a life of the run k: lent in a later one, or brought back behind any from it on."""
    gifts, back = survey.gifts[at], survey.rows[at].back
    ahead = one_row(OTHER_LIFE, 1, -1 if is_lent else 0)
    found = [State(gifts[k], gifts[k].run.first, [minus(ahead, one_row(LIFE))])]
    found.extend([State(gift, gift.run.first, []) for gift in gifts[k + 1:]])
    if back is not None and back <= k:
        last = gifts[-1].run
        period = last.first + last.many - gifts[back].run.first
        found.extend([State(gift, gift.run.first + period, []) for gift in gifts[back:k + 1]])
    return found


def stamp_row(state, is_lent):
    """The stamp of a state, by the life in its run."""
    return state.gift.lent if is_lent else state.gift.freed


def stamp_ends(state, is_lent):
    """The least and the greatest stamp of a state, None for no end."""
    row, many = stamp_row(state, is_lent), state.gift.run.many
    step, start = row[LIFE], row[-1]
    if step == 0:
        return start, start
    end = None if many is None else start + step * (many - 1)
    return (start, end) if step > 0 else (end, start)


def all_ends(states, is_lent):
    """The least and the greatest stamp of several states, None for no end."""
    ends = [stamp_ends(state, is_lent) for state in states]
    return least_end([low for low, _ in ends]), greatest_end([high for _, high in ends])


def put_stamp(row, stamp):
    """A row with a stamp of a life in the place of the one name for it."""
    times = row[OTHER_LIFE]
    if times == 0:
        return row
    found = row[:OTHER_LIFE] + (times * stamp[LIFE],) + row[OTHER_LIFE + 1:]
    return with_more(found, times * stamp[-1])


def in_state(frame, state, is_lent):
    """A frame with the lives of a state in the place of the one name for the stamp."""
    stamp, many = stamp_row(state, is_lent), state.gift.run.many
    found = with_ends(frame, OTHER_LIFE, 0, None if many is None else many - 1)
    equals = tuple([put_stamp(row, stamp) for row in frame.equals])
    rows = tuple([put_stamp(row, stamp) for row in frame.rows])
    return Frame(found.lows, found.highs, equals, rows + tuple(state.rows))


def state_gives(state, gives):
    """The gives behind which a look sees a state, where so many were made at other places."""
    return added(gives, one_row(OTHER_LIFE, 1, state.first + 1))


def accepting(survey, walk, frame, ends, is_lent):
    """The frames in which a walk accepts a place that has some stamp from the least to the greatest one."""
    some = Walk(walk.line, with_ends(frame, OTHER_LIFE, ends[0], ends[1]), walk.names)
    found = walk_on(survey.ids.look, some, Seen(one_row(OTHER_LIFE), is_lent))
    return [end.frame for end in found if end.ended == "accept" and can_be(end.frame)]


def offer_states(survey, walk, frame, states, is_lent, gives):
    """Notes the breaks by looks that see a place in one of several states, lent or not."""
    news = [state for state in states if not is_too_many(survey, state_gives(state, gives)[-1])]
    if not news or is_answered(survey):
        return
    for some in accepting(survey, walk, frame, all_ends(news, is_lent), is_lent):
        for state in news:
            row = state_gives(state, gives)
            if not is_answered(survey) and not is_too_many(survey, row[-1]):
                offer(survey, in_state(some, state, is_lent), row)


def offer_later(survey, walk, at, k):
    """Notes the breaks by looks that name the place of the id itself."""
    frame = same_place(walk)
    if frame is not None:
        for is_lent in (False, True):
            offer_states(survey, walk, frame, later_states(survey, at, k, is_lent), is_lent, number_row(0))


class Group:
    """The regions from a first one to below a last one: the least one around them, and the ends of all their stamps."""

    def __init__(self, first, last, region, freed, lent):
        self.first = first
        self.last = last
        self.region = region
        self.ends = {False: freed, True: lent}


def new_group(survey, first, last):
    """The group of several regions. A place that was never lent has the stamp 0."""
    regions = survey.regions[first:last]
    pages = (min([one.pages[0] for one in regions]), max([one.pages[1] for one in regions]))
    slots = (min([one.slots[0] for one in regions]), greatest_end([one.slots[1] for one in regions]))
    states = []
    for at in range(first, last):
        states.extend(states_of(survey, at))
    low, high = all_ends(states, False)
    freed = (least_end([low, 0]), greatest_end([high, 0]))
    return Group(first, last, Region(pages, slots), freed, all_ends(states, True))


def group_of(survey, first, last):
    """The group of several regions. Each is made once."""
    if (first, last) not in survey.groups:
        survey.groups[(first, last)] = new_group(survey, first, last)
    return survey.groups[(first, last)]


def frame_in(survey, walk, region):
    """The frame in which a walk names a place of a region, or None."""
    page, slot = walk.names["page"], walk.names["slot"]
    rows = there_rows(survey, page, slot)
    rows = rows + [with_more(page, -region.pages[0]), minus(number_row(region.pages[1]), page)]
    rows.append(with_more(slot, -region.slots[0]))
    if region.slots[1] is not None:
        rows.append(minus(number_row(region.slots[1]), slot))
    return narrowed(limited(survey, walk.frame), rows)


def may_accept(survey, walk, group):
    """Whether a walk may accept a place of some region of a group, as far as the ends of all of them tell."""
    frame = frame_in(survey, walk, group.region)
    if frame is None:
        return False
    return any([len(accepting(survey, walk, frame, group.ends[is_lent], is_lent)) > 0 for is_lent in (False, True)])


def other_frames(survey, walk, at, other):
    """The frames in which a walk names a place of another region, or another place of the same one."""
    there = frame_in(survey, walk, survey.regions[other])
    if there is None or other != at:
        return [] if there is None else [there]
    rows = apart_rows(one_row(PAGE), one_row(SLOT), walk.names["page"], walk.names["slot"])
    found = [narrowed(there, [row]) for row in rows]
    return [frame for frame in found if frame is not None]


def offer_other(survey, walk, at, other, gives):
    """Notes the breaks by looks that name another place than that of the id, in one region."""
    states = states_of(survey, other)
    for frame in other_frames(survey, walk, at, other):
        offer_ends(survey, walk, frame, Seen(number_row(0), False), "accept", gives)
        for is_lent in (False, True):
            offer_states(survey, walk, frame, states, is_lent, gives)


def names_itself(walk):
    """Whether a walk names the place of the id, whichever it is."""
    return walk.names["page"] == one_row(PAGE) and walk.names["slot"] == one_row(SLOT)


def offer_others(survey, walk, at, gift):
    """Notes the breaks by looks that name another place than that of the id. Groups of regions are parted in halves."""
    work = [] if names_itself(walk) else [(0, len(survey.regions))]
    while work and not is_answered(survey):
        first, last = work.pop()
        if last == first + 1:
            offer_other(survey, walk, at, first, first_gives(gift))
        elif may_accept(survey, walk, group_of(survey, first, last)):
            middle = (first + last) // 2
            work.extend([(middle, last), (first, middle)])


def note_stale(survey):
    """The breaks of stale."""
    for first, at, k in in_turn(survey):
        if is_answered(survey) or is_too_many(survey, first + 1):
            return
        gift = survey.gifts[at][k]
        walks, _ = arrivals(survey.ids.look, gift)
        for walk in walks:
            offer_later(survey, walk, at, k)
            offer_others(survey, walk, at, gift)
