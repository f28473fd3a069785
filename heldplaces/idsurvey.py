"""What is asked about ids: whether a promise is broken, with how few gives, or from which number of slots on."""

from heldplaces.idframes import all_rows, can_be, empty_frame, least_of, narrowed, with_ends, with_rows
from heldplaces.idgifts import gift_of, row_at
from heldplaces.idnames import KEPT, LIFE, SLOT, number_row, one_row
from heldplaces.idregions import regions_of
from heldplaces.points import least_value
from heldplaces.wholerows import minus, negated, with_more


class Survey:
    """A question about ids. Wanted is "one" break, the fewest "gives" behind one, or the least number of "slots".

    Best is the least number that was found. Many is the number of slots, or the one from which on slots are counted.
    Regions have their rows of stamps and gifts; groups are what was found of several regions at once.
    """

    def __init__(self, ids, pages, many, wanted):
        self.ids = ids
        self.pages = pages
        self.many = many
        self.wanted = wanted
        self.best = None
        self.regions = regions_of(ids, pages, None if wanted == "slots" else many)
        self.rows = [row_at(ids, region) for region in self.regions]
        self.gifts = [gifts_in(self, at) for at in range(len(self.regions))]
        self.groups = {}


def start_frame(survey):
    """A frame in which nothing is known but, where slots are counted, from which number of them on."""
    if survey.wanted == "slots":
        return with_ends(empty_frame(), KEPT, survey.many, None)
    return empty_frame()


def gifts_in(survey, at):
    """The gifts of all runs of lives of the places of a region."""
    region = survey.regions[at]
    frame = start_frame(survey)
    if survey.wanted == "slots":
        frame = with_rows(frame, [there_row(survey, one_row(SLOT))])
    return [gift_of(survey.ids, frame, region, run) for run in survey.rows[at].runs]


def there_row(survey, slot):
    """The row that is 0 or more if there are so many slots that a slot is one of them."""
    if survey.wanted == "slots":
        return with_more(minus(one_row(KEPT), slot), -1)
    return minus(number_row(survey.many - 1), slot)


def there_rows(survey, page, slot):
    """The rows that are 0 or more if there is a place."""
    return [page, minus(number_row(survey.pages - 1), page), slot, there_row(survey, slot)]


def away_rows(survey, page, slot):
    """Rows of which one is 0 or more if there is no such place."""
    return [negated(page), with_more(page, -survey.pages), negated(slot), negated(there_row(survey, slot))]


def apart_rows(page, slot, other_page, other_slot):
    """Rows of which one is 0 or more if two places are not the same one."""
    pages, slots = minus(other_page, page), minus(other_slot, slot)
    return [with_more(pages, -1), with_more(slots, -1),
            with_more(minus(page, other_page), -1), with_more(minus(slot, other_slot), -1)]


def is_answered(survey):
    """Whether nothing less can be found any more."""
    if survey.best is None:
        return False
    return survey.wanted == "one" or survey.best <= (survey.many if survey.wanted == "slots" else 1)


def is_too_many(survey, gives):
    """Whether so many gives are no news."""
    return survey.wanted == "gives" and survey.best is not None and gives >= survey.best


def in_turn(survey):
    """The gifts as triples (lives ahead, region, run), those with few lives ahead first."""
    found = []
    for at, gifts in enumerate(survey.gifts):
        found.extend([(gift.run.first, at, k) for k, gift in enumerate(gifts)])
    return sorted(found)


def first_gives(gift):
    """The gives of a place up to the life of a gift."""
    return one_row(LIFE, 1, gift.run.first + 1)


def limited(survey, frame):
    """A frame without what would be no news, as far as slots are counted."""
    if survey.wanted == "slots" and survey.best is not None:
        return with_ends(frame, KEPT, survey.many, survey.best - 1)
    return frame


def offer(survey, frame, gives):
    """Notes a break that comes up in a frame behind so many gives, told by a row."""
    if survey.wanted == "one":
        if can_be(frame):
            survey.best = 0
        return
    least = least_of(frame, gives)
    if is_too_many(survey, least):
        return
    low = survey.many if survey.wanted == "slots" else least
    kept = with_ends(frame, KEPT, low, None if survey.best is None else survey.best - 1)
    if survey.wanted == "gives":
        kept = with_rows(kept, [], [minus(one_row(KEPT), gives)])
    rows = all_rows(kept)
    if survey.wanted == "slots":
        rows.append(one_row(KEPT, 1, -low))
    found = least_value(list(kept.equals), rows)
    if found is not None:
        survey.best = found


def offer_all(survey, frame, rows, gives):
    """Notes the breaks that come up in a frame where one of several rows is 0 or more."""
    for row in rows:
        found = narrowed(frame, [row])
        if found is not None and not is_answered(survey):
            offer(survey, found, gives)
