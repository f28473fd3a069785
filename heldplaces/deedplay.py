"""Plays of deeds on rows of outcomes."""

from heldplaces.deedlines import OUTCOMES, line_behind, step_on
from heldplaces.deedsteps import (
    DeedStore, copied, is_as_before, is_beyond, is_right, leaves_owed, play_plain, play_step)
from heldplaces.errors import BadOutcomes

PROMISES = ("inside", "whole", "owed", "back", "told")
FAILING = ("none", "stale", "full", "out", "unlent", "bare")


class DeedRun:
    """A play up to a line, with one store for each place to which lay may come."""

    def __init__(self, line, stores, taken):
        self.line = line
        self.stores = stores
        self.taken = taken
        self.ended = None
        self.told = None


def start_run(code):
    """A play at its beginning."""
    return DeedRun(1, [DeedStore(code.kind, False), DeedStore(code.kind, True)], ())


def go_to_step(code, run):
    """Goes on to the next step that has an outcome, or to the end."""
    while run.ended is None:
        run.line = step_on(code.forms, code.blocks, run.line)
        form = ("quit", "ok") if run.line > len(code.forms) else code.forms[run.line - 1]
        if form[0] == "quit":
            run.ended = "done"
            run.told = form[1]
        elif is_beyond(run.stores[0], form):
            run.ended = "beyond"
        elif form[0] in OUTCOMES:
            return
        else:
            for store in run.stores:
                play_plain(store, form)
            run.line = run.line + 1


def take_outcome(code, run, outcome):
    """Plays the step at the line of a play."""
    form = code.forms[run.line - 1]
    for store in run.stores:
        play_step(store, form, outcome)
    run.taken = run.taken + ((run.line, outcome),)
    run.line = line_behind(code.blocks, run.line, outcome)


def forked(run):
    """A play like this one."""
    return DeedRun(run.line, [copied(store) for store in run.stores], run.taken)


def honest_stores(run):
    """The stores for which the row of outcomes is honest."""
    return [store for store in run.stores if store.is_honest]


def breaks_promise(run, kind, promise):
    """Whether a play that is at its end breaks a promise."""
    if promise == "inside" or run.ended == "beyond":
        return promise == "inside" and run.ended == "beyond"
    if promise == "told":
        return run.told == "no" and not any([outcome in FAILING for _, outcome in run.taken])
    stores = honest_stores(run)
    if promise == "whole":
        return any([not is_right(store) for store in stores])
    if promise == "owed":
        return run.told == "ok" and any([not leaves_owed(store, kind) for store in stores])
    return run.told == "no" and any([not is_as_before(store, kind) for store in stores])


def broken_by(run, kind):
    """The promises that a play breaks, in their order."""
    return tuple([promise for promise in PROMISES if breaks_promise(run, kind, promise)])


class DeedPlay:
    """How a play ended, the steps that were played, and what it breaks."""

    def __init__(self, run, kind):
        self.ended = run.ended
        self.told = run.told
        self.taken = run.taken
        self.honest = len(honest_stores(run)) > 0
        self.broken = broken_by(run, kind)


def play_deed(code, outcomes):
    """Plays a deed on a list of outcomes."""
    run = start_run(code)
    go_to_step(code, run)
    at = 0
    while run.ended is None:
        word = code.forms[run.line - 1][0]
        if at >= len(outcomes) or outcomes[at] not in OUTCOMES[word]:
            raise BadOutcomes(word)
        take_outcome(code, run, outcomes[at])
        at = at + 1
        go_to_step(code, run)
    return DeedPlay(run, code.kind)


def all_runs(code):
    """All plays of a deed, one for each row of outcomes."""
    found = []
    work = [start_run(code)]
    while work:
        run = work.pop()
        go_to_step(code, run)
        if run.ended is not None:
            found.append(run)
            continue
        for outcome in OUTCOMES[code.forms[run.line - 1][0]]:
            ahead = forked(run)
            take_outcome(code, ahead, outcome)
            work.append(ahead)
    return found
