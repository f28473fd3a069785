"""What breaks unlike: two ids that are the same number, living at once at two places.

Gifts whose ids are sums of the same sort are looked at together, as one with wider ends. Only where two such clusters
can have the same id, they are parted, until there are single gifts.
"""

from math import gcd

from heldplaces.idframes import Frame, can_be, greatest_end, least_end, narrowed, with_ends
from heldplaces.idnames import (
    KEPT, LIFE, OTHER_LIFE, OTHER_PAGE, OTHER_SLOT, PAGE, QUOTIENTS, SLOT, WIDTH, one_row)
from heldplaces.idsurvey import (
    apart_rows, first_gives, in_turn, is_answered, is_too_many, limited, offer, offer_all)
from heldplaces.wholerows import added, minus


class Cluster:
    """Gifts, each told as (lives ahead, region, run), in one frame and with one row for their ids."""

    def __init__(self, members, frame, word):
        self.members = members
        self.frame = frame
        self.word = word


def gift_at(survey, member):
    """The gift that is told by a member of a cluster."""
    return survey.gifts[member[1]][member[2]]


def sort_of(survey, member):
    """What gifts of one sort have in common. A gift whose rows hang on its life is of a sort of its own."""
    gift = gift_at(survey, member)
    if any([row[LIFE] != 0 for row in gift.frame.rows]):
        return member
    return gift.word[:LIFE] + gift.word[LIFE + 1:-1], gift.frame.rows


def shares_of(gifts):
    """By which numbers ids of gifts of one sort differ, besides by page, slot and quotients: their greatest factor."""
    share = 0
    for gift in gifts:
        share = gcd(share, gcd(gift.word[LIFE], gift.word[-1] - gifts[0].word[-1]))
    return share


def share_ends(gift, start, share):
    """How many shares above a start the ids of a gift are at least and at most, besides page, slot and quotients."""
    times, first = gift.word[LIFE] // share, (gift.word[-1] - start) // share
    many = gift.run.many
    if times == 0:
        return first, first
    end = None if many is None else first + times * (many - 1)
    return (first, end) if times > 0 else (end, first)


def joined_cluster(members, gifts):
    """Several gifts of one sort as one cluster."""
    frame = gifts[0].frame
    for at in range(WIDTH):
        low = least_end([gift.frame.lows[at] for gift in gifts])
        frame = with_ends(frame, at, low, greatest_end([gift.frame.highs[at] for gift in gifts]))
    start, share = gifts[0].word[-1], shares_of(gifts)
    ends = [share_ends(gift, start, share) for gift in gifts] if share else [(0, 0)]
    low, high = least_end([one for one, _ in ends]), greatest_end([two for _, two in ends])
    word = gifts[0].word[:LIFE] + (share,) + gifts[0].word[LIFE + 1:]
    return Cluster(members, with_ends(frame, LIFE, low, high), word)


def cluster_of(survey, members):
    """The cluster of gifts of one sort."""
    gifts = [gift_at(survey, member) for member in members]
    if len(gifts) == 1:
        return Cluster(members, gifts[0].frame, gifts[0].word)
    return joined_cluster(members, gifts)


def halves_of(survey, cluster):
    """A cluster as two, or a single gift as it is."""
    if len(cluster.members) == 1:
        return [cluster]
    middle = len(cluster.members) // 2
    return [cluster_of(survey, cluster.members[:middle]), cluster_of(survey, cluster.members[middle:])]


def side_by_side(one, two, used):
    """The worths of the names of two rows of ends, those of the second one for the second place and later quotients."""
    return (one[:OTHER_PAGE] + two[PAGE:OTHER_PAGE] + one[QUOTIENTS:QUOTIENTS + used]
            + two[QUOTIENTS:WIDTH - used])


def shifted(row, used):
    """A row with the second place in the place of the first one, and with later quotients."""
    none = (row[KEPT],) + (0,) * (WIDTH - 1)
    return side_by_side(none, row, used) + row[-1:]


def both_frames(survey, one, two):
    """The frame of two clusters side by side."""
    first, second = one.frame, two.frame
    used = first.used
    rows = first.rows + tuple([shifted(row, used) for row in second.rows])
    found = Frame(side_by_side(first.lows, second.lows, used), side_by_side(first.highs, second.highs, used), (), rows)
    return limited(survey, found)


def meeting(survey, one, two):
    """The frame in which two clusters have the same id, or None."""
    return narrowed(both_frames(survey, one, two), [], [minus(one.word, shifted(two.word, one.frame.used))])


def place_rows():
    """Rows of which one is 0 or more if the two places are not the same one."""
    return apart_rows(one_row(PAGE), one_row(SLOT), one_row(OTHER_PAGE), one_row(OTHER_SLOT))


def can_meet(survey, one, two):
    """Whether two clusters can have the same id at two places."""
    frame = meeting(survey, one, two)
    return frame is not None and any([narrowed(frame, [row]) is not None for row in place_rows()])


def offer_pair(survey, first, second, frame):
    """Notes the breaks by two gifts that have the same id in a frame."""
    gift, other = gift_at(survey, first), gift_at(survey, second)
    gives = added(first_gives(gift), one_row(OTHER_LIFE, 1, other.run.first + 1))
    if first[1] != second[1]:
        if can_be(frame):
            offer(survey, frame, gives)
        return
    rows = place_rows()
    # The two lives of one run can be exchanged.
    offer_all(survey, frame, rows[:2] if first == second else rows, gives)


def pairs_below(survey, one, two):
    """The pairs of clusters that are left of a pair that can meet."""
    first = halves_of(survey, one)
    if one.members == two.members:
        return [(first[0], first[0]), (first[0], first[1]), (first[1], first[1])]
    return [(half, other) for half in first for other in halves_of(survey, two)]


def compare_clusters(survey, one, two):
    """Notes the breaks by a gift of each of two clusters."""
    work = [(one, two)]
    while work and not is_answered(survey):
        first, second = work.pop()
        if is_too_many(survey, first.members[0][0] + second.members[0][0] + 2):
            continue
        if len(first.members) == 1 and len(second.members) == 1:
            frame = meeting(survey, first, second)
            if frame is not None:
                offer_pair(survey, first.members[0], second.members[0], frame)
        elif can_meet(survey, first, second):
            work.extend(pairs_below(survey, first, second)[::-1])


def clusters_of(survey):
    """The clusters of all gifts, one for each sort. Their members come as their lives do."""
    found = {}
    for member in in_turn(survey):
        found.setdefault(sort_of(survey, member), []).append(member)
    return [cluster_of(survey, members) for members in found.values()]


def note_unlike(survey):
    """The breaks of unlike."""
    clusters = clusters_of(survey)
    for k, one in enumerate(clusters):
        for two in clusters[k:]:
            compare_clusters(survey, one, two)
