"""What ids and stamps the places of a region get in the lives of a run, told by rows of page, slot and life."""

from heldplaces.codelines import step_on
from heldplaces.idframes import reckoned, with_ends
from heldplaces.idnames import LIFE, PAGE, SLOT, number_row, one_row
from heldplaces.pagedesk import compare
from heldplaces.wholerows import added, with_more


class Gift:
    """The frame of a run of lives, the row of the id, and those of the stamp while lent and when brought back."""

    def __init__(self, run, frame, word, lent, freed):
        self.run = run
        self.frame = frame
        self.word = word
        self.lent = lent
        self.freed = freed


class GiftDesk:
    """The rows for which names stand, and what page, slot and stamp are in one of the cases."""

    def __init__(self, frame, names, sample):
        self.frame = frame
        self.names = names
        self.sample = sample


def sample_value(desk, term):
    """What a term of a test is in the case that is looked at; all cases come out alike."""
    return term if isinstance(term, int) else desk.sample[term]


def test_holds(desk, parts):
    """Whether a test of a give or a free holds."""
    return all([compare(sample_value(desk, left), sign, sample_value(desk, right)) == wanted
                for wanted, sign, left, right in parts])


def sum_row(names, terms):
    """What a sum stands for."""
    total = number_row(0)
    for sign, term in terms:
        total = added(total, number_row(term) if isinstance(term, int) else names[term], sign)
    return total


def set_stamp(desk, row, value):
    """Sets the stamp: its row, and what it is in the case that is looked at."""
    desk.names["stamp"] = row
    desk.sample["stamp"] = value


def play_line(desk, form):
    """Plays a line besides ifs and ends."""
    row, value = desk.names["stamp"], desk.sample["stamp"]
    if form[0] == "reckon":
        total = sum_row(desk.names, form[2])
        desk.frame, desk.names[form[1]] = reckoned(desk.frame, total, form[3], form[4])
    elif form[0] == "more":
        set_stamp(desk, with_more(row, form[1]), value + form[1])
    elif form[0] == "stamp":
        set_stamp(desk, number_row(form[1]), form[1])
    elif form[0] == "rest":
        # In all lives of a run the stamp has the same quotient.
        taken = value // form[1] * form[1]
        set_stamp(desk, with_more(row, -taken), value - taken)


def play_code(desk, code):
    """Plays a give or a free."""
    line = step_on(code.forms, code.jumps, 1)
    while line <= len(code.forms) and code.forms[line - 1][0] != "quit":
        form = code.forms[line - 1]
        ahead = line + 1
        if form[0] == "if" and not test_holds(desk, form[1]):
            ahead = code.jumps[line]
        play_line(desk, form)
        line = step_on(code.forms, code.jumps, ahead)


def placed(frame, region, run):
    """The frame with a place of a region, and a life of a run."""
    found = with_ends(frame, PAGE, region.pages[0], region.pages[1])
    found = with_ends(found, SLOT, region.slots[0], region.slots[1])
    return with_ends(found, LIFE, 0, None if run.many is None else run.many - 1)


def gift_of(ids, frame, region, run):
    """The gift of a run of lives of the places of a region."""
    none = number_row(0)
    names = {"page": one_row(PAGE), "slot": one_row(SLOT), "stamp": one_row(LIFE, run.step, run.stamp),
             "word": none, "a": none, "b": none, "c": none}
    sample = {"page": region.pages[0], "slot": region.slots[0], "stamp": run.stamp}
    desk = GiftDesk(placed(frame, region, run), names, sample)
    play_code(desk, ids.give)
    word, lent, given = desk.names["word"], desk.names["stamp"], desk.frame
    # What a free reckons is lost, so that its quotients are not kept.
    play_code(desk, ids.free)
    return Gift(run, given, word, lent, desk.names["stamp"])


def row_at(ids, region):
    """The row of stamps of the places of a region."""
    return ids.row_of(region.pages[0], region.slots[0])
