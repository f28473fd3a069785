"""What breaks inside, own and none, for all places and lives at once."""

from heldplaces.idframes import narrowed
from heldplaces.idlooks import Seen, Walk, arrivals, walk_on
from heldplaces.idnames import PAGE, SLOT, one_row
from heldplaces.idsurvey import (
    apart_rows, away_rows, first_gives, in_turn, is_answered, is_too_many, offer, offer_all, there_rows)
from heldplaces.wholerows import minus, with_more


def offer_ends(survey, walk, frame, seen, ended, gives):
    """Notes a break for each way on which a walk ends as told, in a frame."""
    if frame is None or is_answered(survey):
        return
    for end in walk_on(survey.ids.look, Walk(walk.line, frame, walk.names), seen):
        if end.ended == ended and not is_answered(survey):
            offer(survey, end.frame, gives)


def offer_away(survey, walk, ended, gives):
    """Notes a break for each way on which a walk that names no place ends as told."""
    for row in away_rows(survey, walk.names["page"], walk.names["slot"]):
        offer_ends(survey, walk, narrowed(walk.frame, [row]), Seen(None, False), ended, gives)


def same_place(walk):
    """The frame in which a walk names the place of the id, or None."""
    page, slot = walk.names["page"], walk.names["slot"]
    return narrowed(walk.frame, [], [minus(page, one_row(PAGE)), minus(slot, one_row(SLOT))])


def note_inside(survey, gift):
    """The breaks of inside by looks at the ids of a gift."""
    walks, _ = arrivals(survey.ids.look, gift)
    for walk in walks:
        offer_away(survey, walk, "beyond", first_gives(gift))


def note_own(survey, gift):
    """The breaks of own by looks at the ids of a gift. Where another place is named, any end is one."""
    walks, ends = arrivals(survey.ids.look, gift)
    gives = first_gives(gift)
    for end in ends:
        offer(survey, end.frame, gives)
    for walk in walks:
        offer_away(survey, walk, "refuse", gives)
        offer_ends(survey, walk, same_place(walk), Seen(gift.lent, True), "refuse", gives)
        page, slot = walk.names["page"], walk.names["slot"]
        there = narrowed(walk.frame, there_rows(survey, page, slot))
        if there is not None and not is_answered(survey):
            offer_all(survey, there, apart_rows(one_row(PAGE), one_row(SLOT), page, slot), gives)


def note_none(survey, gift):
    """The breaks of none by a gift."""
    found = narrowed(gift.frame, [], [with_more(gift.word, -survey.ids.none)])
    if found is not None:
        offer(survey, found, first_gives(gift))


def note_gifts(survey, note):
    """Notes the breaks by each gift."""
    for first, at, k in in_turn(survey):
        if is_answered(survey) or is_too_many(survey, first + 1):
            return
        note(survey, survey.gifts[at][k])
