"""Page rules: head, slot, unit and most, and which sizes are in use."""

from heldplaces.errors import BadRule, BadSize
from heldplaces.values import is_between, is_from


def round_up(number, unit):
    """The least multiple of unit that is not less than the number."""
    return -(-number // unit) * unit


def check_size(size):
    """Sizes and lengths are integers from 1 on."""
    if not is_from(size, 1):
        raise BadSize(size)


class PageRules:
    """The numbers that are the same for all record pages of a store."""

    def __init__(self, head, slot, unit, most=None):
        if not is_from(head, 0):
            raise BadRule("head")
        if not is_between(slot, 1, 64):
            raise BadRule("slot")
        if not is_between(unit, 1, 16):
            raise BadRule("unit")
        if most is not None and not is_from(most, 1):
            raise BadRule("most")
        self.head = head
        self.slot = slot
        self.unit = unit
        self.most = most

    def in_use(self, size):
        """Whether pages may have this size."""
        check_size(size)
        if size % self.unit != 0 or size < self.head:
            return False
        return self.most is None or size <= self.most + 1

    def next_in_use(self, size):
        """The least size in use from size on, or None."""
        check_size(size)
        found = round_up(max(size, self.head), self.unit)
        if self.most is not None and found > self.most + 1:
            return None
        return found

    def room(self, length):
        """The room of a record of this length."""
        check_size(length)
        return round_up(length, self.unit)

    def __eq__(self, other):
        if not isinstance(other, PageRules):
            return False
        return (self.head == other.head and self.slot == other.slot
                and self.unit == other.unit and self.most == other.most)
