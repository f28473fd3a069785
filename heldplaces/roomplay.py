"""Plays of room texts on fits and lengths, and which fits are told to the map."""

from heldplaces.codelines import step_on
from heldplaces.errors import BadKind, BadNumber, BadSize
from heldplaces.pagedesk import compare
from heldplaces.values import is_between, is_from

BEYOND = "beyond"


def check_in_use(rules, size):
    """Plays and questions about fits are for sizes in use alone."""
    if not is_from(size, 1) or not rules.in_use(size):
        raise BadSize(size)


def full_at(rules, size):
    """The fit of a page without slots."""
    return max(size - rules.head - rules.slot, 0) // rules.unit * rules.unit


def room_full(rules, size):
    """The fit of a page without slots, at a size in use."""
    check_in_use(rules, size)
    return full_at(rules, size)


def check_fit(rules, size, fit):
    """A fit is a multiple of unit from 0 to full."""
    if not is_between(fit, 0, full_at(rules, size)) or fit % rules.unit != 0:
        raise BadNumber(fit)


class RoomPlay:
    """How a play of a room text ended: the class that it tells, and whether look was met."""

    def __init__(self, ended, number, is_looking):
        self.ended = ended
        self.number = number
        self.is_looking = is_looking


def term_value(names, term):
    """What a term of a sum is at the moment."""
    return term if isinstance(term, int) else names[term]


def sum_value(names, terms):
    """What a sum is at the moment."""
    return sum([sign * term_value(names, term) for sign, term in terms])


def test_holds(names, parts):
    """Whether a test holds."""
    return all([compare(term_value(names, left), sign, term_value(names, right)) == wanted
                for wanted, sign, left, right in parts])


def play_setting(names, form):
    """Sets a name. False if bits of a sum below 0 are asked."""
    total = sum_value(names, form[2])
    if form[0] == "bits":
        if total < 0:
            return False
        total = total.bit_length()
    elif form[0] == "divide":
        total = total // form[3]
    names[form[1]] = total
    return True


def play_text(text, names):
    """Plays a text on names: whether look was met, or None if bits of a sum below 0 were asked."""
    is_looking = False
    line = step_on(text.forms, text.jumps, 1)
    while line <= len(text.forms):
        form = text.forms[line - 1]
        ahead = line + 1
        if form[0] == "quit":
            return is_looking
        if form[0] == "look":
            is_looking = True
        elif form[0] == "if":
            ahead = ahead if test_holds(names, form[1]) else text.jumps[line]
        elif not play_setting(names, form):
            return None
        line = step_on(text.forms, text.jumps, ahead)
    return is_looking


def play_told(code, kind, size, number):
    """The play of the text of a kind on a number that is right."""
    names = {"size": size, "full": full_at(code.rules, size), "top": code.top, "class": 0, "a": 0, "b": 0}
    names["fit" if kind == "class" else "len"] = number
    is_looking = play_text(code.classes if kind == "class" else code.asks, names)
    if is_looking is None or names["class"] < 0 or names["class"] > code.top:
        return RoomPlay(BEYOND, None, False)
    return RoomPlay("done", names["class"], is_looking)


def play_room(code, kind, size, number):
    """Plays the text of a kind on a size in use, and a fit or a length."""
    if kind not in ("class", "ask"):
        raise BadKind(kind)
    check_in_use(code.rules, size)
    if kind == "class":
        check_fit(code.rules, size, number)
    elif not is_between(number, 1, full_at(code.rules, size)):
        raise BadNumber(number)
    return play_told(code, kind, size, number)


def room_tells(code, size, was, fit):
    """The fit that is told when a fit goes from one number to another one, or None."""
    check_in_use(code.rules, size)
    check_fit(code.rules, size, was)
    check_fit(code.rules, size, fit)
    if fit == was or fit < was and was - fit < code.fall or fit > was and fit - was < code.rise:
        return None
    return was if code.when == "ahead" else fit
