"""Book rules: how many rows a book keeps, told by a sum of its size."""

from heldplaces.codelines import is_spaced, read_sum
from heldplaces.errors import BadSum
from heldplaces.pagerules import check_size


def read_keep(text):
    """The sum of a value of any kind; None for what is no sum with numbers and size alone."""
    if not isinstance(text, str):
        return None
    words = text.split(" ")
    return read_sum(words, ("size",)) if is_spaced(words) else None


def sizes_in_use(times, more):
    """The first and the last size at which so many times the size and a number more is from 1 to the size.

    The last one is None for no end; the pair is None if there is no such size.
    """
    if times == 1:
        return (max(1, 1 - more), None) if more <= 0 else None
    if times == 0:
        return (more, None) if more >= 1 else None
    first, last = max(1, -(-more // 2)), more - 1
    return (first, last) if first <= last else None


class BookRules:
    """How many rows are kept: so many times the size (1, 0 or -1), and a number more."""

    def __init__(self, keep):
        terms = read_keep(keep)
        if terms is None:
            raise BadSum(keep)
        self.keep = keep
        self.times = sum([sign for sign, term in terms if term == "size"])
        self.more = sum([sign * term for sign, term in terms if term != "size"])

    def kept_rows(self, size):
        """How many rows may be kept at a size."""
        check_size(size)
        return self.times * size + self.more

    def in_use(self, size):
        """Whether books may have this size."""
        return 1 <= self.kept_rows(size) <= size

    def next_in_use(self, size):
        """The least size in use from size on, or None."""
        check_size(size)
        ends = sizes_in_use(self.times, self.more)
        if ends is None or ends[1] is not None and size > ends[1]:
            return None
        return max(size, ends[0])

    def __eq__(self, other):
        if not isinstance(other, BookRules):
            return False
        return self.keep == other.keep
