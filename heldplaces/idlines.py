"""The forms of the lines of id codes."""

from heldplaces.codelines import is_number, read_sum, read_test

REGISTERS = ("a", "b", "c")
PLACE = ("page", "slot", "stamp")
MOST_BITS = 90
MOST_STEP = 12
NAMES = {
    "give": ("page", "slot", "stamp", "word", "a", "b", "c"),
    "free": ("page", "slot", "stamp", "a", "b", "c"),
    "look": ("page", "slot", "stamp", "word", "a", "b", "c"),
}
TARGETS = {"give": ("a", "b", "c", "word"), "free": ("a", "b", "c"), "look": ("a", "b", "c", "page", "slot")}
WORDS = {
    "give": ("else", "end", "quit"),
    "free": ("else", "end", "quit", "retire"),
    "look": ("else", "end", "accept", "refuse"),
}
PHRASES = {"lent": "lent"}


def read_factor(sign, word):
    """What a sign and its number do, as a pair (sign, factor) of `*`, `//` or `mod`; None for no such pair."""
    if not is_number(word):
        return None
    number = int(word)
    if sign in ("*", "//", "mod"):
        return (sign, number) if number >= 2 else None
    if sign in ("<<", ">>"):
        if not 1 <= number <= MOST_BITS:
            return None
        return ("*" if sign == "<<" else "//", 1 << number)
    if sign == "&" and number >= 1 and number & (number + 1) == 0 and number.bit_length() <= MOST_BITS:
        return ("mod", number + 1)
    return None


def read_reckoning(kind, target, words):
    """The form of a line that sets a register, word, page or slot."""
    if len(words) > 2 and words[-2] in ("*", "//", "mod", "<<", ">>", "&"):
        terms = read_sum(words[:-2], NAMES[kind])
        factor = read_factor(words[-2], words[-1])
        if terms is None or factor is None:
            return None
        return ("reckon", target, terms, factor[0], factor[1])
    terms = read_sum(words, NAMES[kind])
    return None if terms is None else ("reckon", target, terms, "", 1)


def read_stamp(words):
    """The form of a line that sets the stamp."""
    if len(words) == 1:
        return ("stamp", int(words[0])) if is_number(words[0]) else None
    if len(words) != 3 or words[0] != "stamp":
        return None
    if words[1] == "+":
        if not is_number(words[2]) or not 1 <= int(words[2]) <= MOST_STEP:
            return None
        return ("more", int(words[2]))
    if words[1] not in ("mod", "&"):
        return None
    factor = read_factor(words[1], words[2])
    return None if factor is None else ("rest", factor[1])


def compares_place(part):
    """Whether a part compares one of page, slot and stamp with a number."""
    _, _, left, right = part
    if isinstance(left, int):
        return right in PLACE
    return left in PLACE and isinstance(right, int)


def read_if(kind, words):
    """The form of an if of a kind."""
    parts = read_test(words, NAMES[kind], dict(PHRASES) if kind == "look" else {})
    if parts is None:
        return None
    if kind != "look" and not all([compares_place(part) for part in parts]):
        return None
    return ("if", parts)


def read_id_line(kind, words):
    """The form of a line of an id code of a kind, or None."""
    if words[0] == "if":
        return read_if(kind, words[1:])
    if len(words) == 1:
        return (words[0],) if words[0] in WORDS[kind] else None
    if len(words) < 3 or words[1] != "=":
        return None
    if words[0] in TARGETS[kind]:
        return read_reckoning(kind, words[0], words[2:])
    if words[0] == "stamp" and kind != "look":
        return read_stamp(words[2:])
    return None


def read_give_line(words):
    """The form of a line of a code for giving, or None."""
    return read_id_line("give", words)


def read_free_line(words):
    """The form of a line of a code for freeing, or None."""
    return read_id_line("free", words)


def read_look_line(words):
    """The form of a line of a code for looking, or None."""
    return read_id_line("look", words)


READERS = {"give": read_give_line, "free": read_free_line, "look": read_look_line}
