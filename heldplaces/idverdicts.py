"""For which numbers of pages and slots ids keep their promises, in all histories."""

from heldplaces.errors import BadNumber, BadPromise
from heldplaces.idbreaks import note_gifts, note_inside, note_none, note_own
from heldplaces.idstale import note_stale
from heldplaces.idsurvey import Survey
from heldplaces.idunlike import note_unlike
from heldplaces.values import is_between

PROMISES = ("inside", "own", "stale", "unlike", "none")
MOST_NUMBER = 1000000000000000000000000000000


def check_promise(promise):
    """A promise is one of the five words."""
    if promise not in PROMISES:
        raise BadPromise(promise)


def check_numbers(pages, many):
    """Pages and slots are integers from 1 to 10 ** 30."""
    for number in (pages, many):
        if not is_between(number, 1, MOST_NUMBER):
            raise BadNumber(number)


def note_breaks(survey, promise):
    """Notes the breaks of a promise."""
    if promise == "inside":
        note_gifts(survey, note_inside)
    elif promise == "own":
        note_gifts(survey, note_own)
    elif promise == "stale":
        note_stale(survey)
    elif promise == "unlike":
        note_unlike(survey)
    else:
        note_gifts(survey, note_none)


def surveyed(ids, promise, pages, many, wanted):
    """The least number that is found of what is wanted about a promise, or None if it is kept."""
    survey = Survey(ids, pages, many, wanted)
    note_breaks(survey, promise)
    return survey.best


def id_keeps(ids, promise, pages, many):
    """Whether ids keep a promise with so many pages and so many slots in each."""
    check_promise(promise)
    check_numbers(pages, many)
    return surveyed(ids, promise, pages, many, "one") is None


def id_kept(ids, pages, many):
    """The promises that ids keep with so many pages and so many slots in each, in their order."""
    check_numbers(pages, many)
    return tuple([promise for promise in PROMISES if surveyed(ids, promise, pages, many, "one") is None])


def least_gives(ids, promise, pages, many):
    """The least number of gives in a history behind which a promise is broken, or None."""
    check_promise(promise)
    check_numbers(pages, many)
    return surveyed(ids, promise, pages, many, "gives")


def next_id_break(ids, promise, pages, many):
    """The least number of slots from one on for which a promise is broken with so many pages, or None."""
    check_promise(promise)
    check_numbers(pages, many)
    return surveyed(ids, promise, pages, many, "slots")
