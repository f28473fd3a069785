"""The forms of the lines of book codes."""

from heldplaces.codelines import read_sum, read_test

FIELDS = ("next", "many", "more", "own", "mark")
REGISTERS = ("a", "b", "c")
NAMES = ("size", "keep", "next", "many", "more", "own", "mark", "a", "b", "c")
PLACES = ("a", "b", "c", "next", "mark")
WORDS = ("else", "end", "no", "quit")


def read_sealed(target, words):
    """The form of a line `R = sealed PLACE`."""
    if target not in REGISTERS or len(words) != 2 or words[1] not in PLACES:
        return None
    return ("sealed", target, words[1])


def read_setting(target, words):
    """The form of a line `target = words`."""
    if target not in FIELDS and target not in REGISTERS:
        return None
    if words[0] == "sealed":
        return read_sealed(target, words)
    word = "wrap" if words[0] == "wrap" else "set"
    terms = read_sum(words[1:] if word == "wrap" else words, NAMES)
    return None if terms is None else (word, target, terms)


def read_move(word, words):
    """The form of a line with back or again."""
    if len(words) == 2 and words[0] == "until":
        return (word, "until", words[1]) if words[1] in PLACES else None
    terms = read_sum(words[:-1], NAMES) if words[-1:] == ["times"] else None
    return None if terms is None else (word, "times", terms)


def read_book_line(words):
    """The form of a line of a book code, or None."""
    if words[0] == "if":
        parts = read_test(words[1:], NAMES, {})
        return None if parts is None else ("if", parts)
    if words[0] == "write":
        return ("write", words[1]) if len(words) == 2 and words[1] in PLACES else None
    if words[0] in ("back", "again"):
        return read_move(words[0], words[1:])
    if len(words) == 1:
        return (words[0],) if words[0] in WORDS else None
    if len(words) > 2 and words[1] == "=":
        return read_setting(words[0], words[2:])
    return None
