"""Which promises a deed keeps on all rows of outcomes, and which promises of the parts a program needs."""

from heldplaces.deedcodes import KINDS, DeedCode
from heldplaces.deedplay import PROMISES, all_runs, broken_by, honest_stores
from heldplaces.errors import BadPromise, OtherKinds


def check_promise(promise):
    """A promise is one of the five words."""
    if promise not in PROMISES:
        raise BadPromise(promise)


def runs_of(code):
    """All plays of a deed."""
    if "runs" not in code.answers:
        code.answers["runs"] = all_runs(code)
    return code.answers["runs"]


def failing_rows(code):
    """For each promise that is broken the row of a play with the fewest outcomes that breaks it."""
    if "failing" not in code.answers:
        found = {}
        for run in runs_of(code):
            for promise in broken_by(run, code.kind):
                if promise not in found or len(run.taken) < len(found[promise]):
                    found[promise] = run.taken
        code.answers["failing"] = found
    return code.answers["failing"]


def failing_way(code, promise):
    """The row of outcomes of a play with the fewest ones that breaks a promise, or None."""
    check_promise(promise)
    return failing_rows(code).get(promise)


def deed_keeps(code, promise):
    """Whether a deed keeps a promise."""
    check_promise(promise)
    return promise not in failing_rows(code)


def deed_kept(code):
    """The promises that a deed keeps, in their order."""
    return tuple([promise for promise in PROMISES if deed_keeps(code, promise)])


def never_met(code):
    """The pairs (line, outcome) that come up in some play, but in no honest one, ascending."""
    met = {}
    honest = {}
    for run in runs_of(code):
        is_honest = len(honest_stores(run)) > 0
        for pair in run.taken:
            met[pair] = True
            if is_honest:
                honest[pair] = True
    return tuple(sorted([pair for pair in met if pair not in honest]))


def words_met(code):
    """The words of the steps to which plays of a deed come, also of those that are beyond."""
    found = {}
    for run in runs_of(code):
        lines = [line for line, _ in run.taken]
        if run.ended == "beyond":
            lines.append(run.line)
        for line in lines:
            found[code.forms[line - 1][0]] = True
    return found


def needs_stale(code):
    """Whether a deed looks at an id whose place it brought back, on a row that is honest up to there."""
    return any([store.needs_stale for run in runs_of(code) for store in run.stores])


def are_deeds(deeds):
    """Whether codes are a deed of each kind, in order."""
    if not isinstance(deeds, (list, tuple)) or len(deeds) != len(KINDS):
        return False
    return all([isinstance(code, DeedCode) and code.kind == kind for code, kind in zip(deeds, KINDS)])


def needs(deeds, outside=False):
    """Which promises of the parts a program with these deeds needs."""
    if not are_deeds(deeds):
        raise OtherKinds("deeds")
    met = {}
    for code in deeds:
        met.update(words_met(code))
    found = ["pages"]
    if "look" in met:
        found.append("own")
    if "give" in met:
        found.append("unlike")
    if outside or any([needs_stale(code) for code in deeds]):
        found.append("stale")
    return tuple(found)
