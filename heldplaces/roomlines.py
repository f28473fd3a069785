"""The forms of the lines of room texts."""

from heldplaces.codelines import is_number, read_sum, read_test

TARGETS = ("class", "a", "b")
LEAST_DIVISOR = 2
MOST_DIVISOR = 256
NAMES = {
    "class": ("size", "full", "top", "class", "a", "b", "fit"),
    "ask": ("size", "full", "top", "class", "a", "b", "len"),
}
WORDS = {"class": ("else", "end", "quit"), "ask": ("else", "end", "quit", "look")}


def read_division(target, words, names):
    """The form of a line `R = SUM // D`."""
    terms = read_sum(words[:-2], names)
    if terms is None or not is_number(words[-1]):
        return None
    number = int(words[-1])
    if number < LEAST_DIVISOR or number > MOST_DIVISOR:
        return None
    return ("divide", target, terms, number)


def read_setting(target, words, names):
    """The form of a line `R = words`."""
    if target == "class" and words[0] == "bits":
        terms = read_sum(words[1:], names)
        return None if terms is None else ("bits", target, terms)
    if len(words) > 2 and words[-2] == "//":
        return read_division(target, words, names)
    terms = read_sum(words, names)
    return None if terms is None else ("set", target, terms)


def read_room_line(kind, words):
    """The form of a line of a room text of a kind, or None."""
    if words[0] == "if":
        parts = read_test(words[1:], NAMES[kind], {})
        return None if parts is None else ("if", parts)
    if len(words) == 1:
        return (words[0],) if words[0] in WORDS[kind] else None
    if len(words) > 2 and words[1] == "=" and words[0] in TARGETS:
        return read_setting(words[0], words[2:], NAMES[kind])
    return None


def read_class_line(words):
    """The form of a line of a text that leads from a fit to a class, or None."""
    return read_room_line("class", words)


def read_ask_line(words):
    """The form of a line of a text that leads from a length to a class, or None."""
    return read_room_line("ask", words)


READERS = {"class": read_class_line, "ask": read_ask_line}
