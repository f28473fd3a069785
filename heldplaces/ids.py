"""Ids: a code of each kind, and a number that is no id."""

from heldplaces.errors import BadNumber, Beyond, OtherFactors, OtherKinds
from heldplaces.idlimits import factors_of, go_together
from heldplaces.idplay import IdDesk, play_id
from heldplaces.idrows import free_stamp_at, stamp_row
from heldplaces.pagedesk import compare
from heldplaces.values import is_from, is_whole


def check_numbers(numbers):
    """Pages, slots, stamps and lives are integers from 0 on."""
    for number in numbers:
        if not is_from(number, 0):
            raise BadNumber(number)


def play_given(give, page, slot, stamp):
    """The id that is told when a place is lent, and its stamp then."""
    desk = IdDesk({"page": page, "slot": slot, "stamp": stamp, "word": 0})
    play_id(give, desk)
    return (desk.names["word"], desk.names["stamp"])


def place_sides(codes, page, slot):
    """How the comparisons with page and slot come out; places for which they do alike have the same stamps."""
    names = {"page": page, "slot": slot}
    sides = []
    for code in codes:
        for form in code.forms:
            for _, sign, left, right in form[1] if form[0] == "if" else ():
                if left in names or right in names:
                    sides.append(compare(names.get(left, left), sign, names.get(right, right)))
    return tuple(sides)


class Ids:
    """The codes for giving, freeing and looking. Rows of stamps are kept in `found`, so that each is made once."""

    def __init__(self, give, free, look, none=0):
        if give.kind != "give" or free.kind != "free" or look.kind != "look":
            raise OtherKinds("ids")
        if not go_together(factors_of(give.forms) + factors_of(free.forms) + factors_of(look.forms)):
            raise OtherFactors()
        if not is_whole(none):
            raise BadNumber(none)
        self.give = give
        self.free = free
        self.look = look
        self.none = none
        self.found = {}

    def row_of(self, page, slot):
        """The row of stamps of a place."""
        sides = place_sides((self.give, self.free), page, slot)
        if sides not in self.found:
            self.found[sides] = stamp_row(self.give, self.free, (page, slot))
        return self.found[sides]

    def given(self, page, slot, stamp):
        """The pair of the id that is told when a place with this stamp is lent, and its stamp then."""
        check_numbers((page, slot, stamp))
        return play_given(self.give, page, slot, stamp)

    def brought(self, page, slot, stamp):
        """The pair of the stamp of a place when it is brought back, and whether it is retired."""
        check_numbers((page, slot, stamp))
        desk = IdDesk({"page": page, "slot": slot, "stamp": stamp})
        play_id(self.free, desk)
        return (desk.names["stamp"], desk.is_retired)

    def stamp_at(self, page, slot, life):
        """The stamp of a place while it is lent for a life, or None."""
        check_numbers((page, slot, life))
        stamp = free_stamp_at(self.row_of(page, slot), life)
        return None if stamp is None else play_given(self.give, page, slot, stamp)[1]

    def id_at(self, page, slot, life):
        """The id that was told for a life of a place, or None."""
        check_numbers((page, slot, life))
        stamp = free_stamp_at(self.row_of(page, slot), life)
        return None if stamp is None else play_given(self.give, page, slot, stamp)[0]

    def free_stamp(self, page, slot, life):
        """The stamp of a place while it is free and has had so many lives, or None."""
        check_numbers((page, slot, life))
        return free_stamp_at(self.row_of(page, slot), life)

    def lives_of(self, page, slot):
        """How many lives a place has, None if there is no end."""
        check_numbers((page, slot))
        return self.row_of(page, slot).lives

    def answer(self, word, places):
        """What a look at a number answers: a place, or None if it is refused."""
        if not is_whole(word):
            raise BadNumber(word)
        desk = IdDesk({"word": word, "page": -1, "slot": -1}, places)
        ended = play_id(self.look, desk)
        if ended == "beyond":
            raise Beyond()
        return (desk.names["page"], desk.names["slot"]) if ended == "accept" else None

    def __eq__(self, other):
        if not isinstance(other, Ids):
            return False
        return (self.give == other.give and self.free == other.free
                and self.look == other.look and self.none == other.none)
