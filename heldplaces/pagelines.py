"""The forms of the lines of page codes."""

from heldplaces.codelines import is_number, read_sum, read_test

REGISTERS = ("a", "b", "c")
FIELDS = ("low", "holes")
OWN = ("own.at", "own.len")
NAMES = ("size", "head", "slot", "unit", "slots", "low", "holes", "edge", "len", "own.at", "own.len", "a", "b", "c")
PHRASES = {"there is empty": "empty", "own is last": "last"}
PLAIN = {
    "else": ("else",),
    "end": ("end",),
    "no": ("no",),
    "quit": ("quit",),
    "pack": ("pack",),
    "clear own": ("clear",),
    "take empty": ("take", "empty"),
    "take next": ("take", "next"),
    "slots = slots + 1": ("slots", 1),
    "slots = slots - 1": ("slots", -1),
}


def read_register(target, words):
    """The form of a line that sets a register."""
    if words in (["room", "len"], ["room", "own.len"]):
        return ("room", target, words[1])
    if len(words) > 2 and words[-2] == "//":
        terms = read_sum(words[:-2], NAMES)
        if terms is None or not is_number(words[-1]) or not 2 <= int(words[-1]) <= 6:
            return None
        return ("divide", target, terms, int(words[-1]))
    terms = read_sum(words, NAMES)
    return None if terms is None else ("set", target, terms)


def read_setting(target, words):
    """The form of a line `target = words`."""
    if target in REGISTERS:
        return read_register(target, words)
    if target not in FIELDS and target not in OWN:
        return None
    terms = read_sum(words, NAMES)
    if terms is None:
        return None
    return ("field" if target in FIELDS else "own", target, terms)


def read_page_line(words):
    """The form of a line of a page code, or None."""
    line = " ".join(words)
    if line in PLAIN:
        return PLAIN[line]
    if words[0] == "if":
        parts = read_test(words[1:], NAMES, dict(PHRASES))
        return None if parts is None else ("if", parts)
    if words[0] == "lay":
        terms = read_sum(words[1:], NAMES)
        return None if terms is None else ("lay", terms)
    if len(words) > 2 and words[1] == "=":
        return read_setting(words[0], words[2:])
    return None
