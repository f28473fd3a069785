"""Programs, right ones and ones with slips in some parts, that are drawn."""

from bookbrute import slipped
from heldplaces.bookcodes import BookCode
from heldplaces.bookrules import BookRules
from heldplaces.deedcodes import DeedCode
from heldplaces.errors import HeldError
from heldplaces.ids import Ids
from heldplaces.pagecodes import PageCode
from heldplaces.pagerules import PageRules
from heldplaces.program import Program
from heldplaces.roomcodes import RoomCode, RoomText
from samples import (
    BOOK, CHANGE, COPY, ENTER, GIVE, GIVE_EIGHT, GIVE_FOUR, LEAVE, LOOK, LOOK_EIGHT, LOOK_FOUR, MOVE, PLAIN, PUT, SHRINK, STRETCH,
    STRIKE, free_code, give_code, look_code)

RULES = [PLAIN, PLAIN, PageRules(0, 1, 1), PageRules(4, 2, 4), PageRules(2, 3, 8), PageRules(8, 4, 1, 39), PageRules(4, 2, 4, 63)]
IDS = [(GIVE, LOOK), (GIVE_EIGHT, LOOK_EIGHT), (GIVE_FOUR, LOOK_FOUR), (GIVE_EIGHT, LOOK_EIGHT.replace("lent and ", ""))]
FREES = ["", "stamp = stamp + 1", "if stamp is 3\nretire\nend", "if stamp is 7\nretire\nend", "if stamp is 4095\nretire\nend"]
ROOMS = [("class = fit", "class = len"), ("class = fit // 4", "class = len + 3 // 4"), ("class = fit // 8", "class = len // 8\nlook"),
         ("class = bits fit", "class = bits len"), ("class = bits fit", "class = bits len\nlook"), ("class = fit // 8", "class = len // 8")]
PAGE_LINES = ["pack", "lay low", "lay own.at", "lay a", "clear own", "take empty", "take next", "slots = slots + 1",
              "slots = slots - 1", "own.at = low", "own.len = len", "own.len = 1", "own.at = 0", "low = low + 1", "low = low - a",
              "holes = 0", "holes = holes + a", "no", "quit", "a = room len", "a = room own.len", "low = 13", "b = a", "a = size // 2",
              "own.at = own.at + 1"]
DEED_LINES = ["find h", "find i", "look h p", "look i q", "lay p", "lay q", "give h p", "give i q", "free p", "free q", "strike p",
              "strike q", "stretch p", "enter h", "enter i", "leave", "h = i", "p = q", "quit no", "quit ok", "on full", "end", "on none"]
ID_LINES = ["stamp = stamp + 1", "stamp = stamp & 3", "a = page", "word = slot", "accept", "refuse", "quit", "retire", "page = 0",
            "slot = word", "if lent", "end", "stamp = 0", "word = word + 1", "if page < 1"]
ROOM_LINES = ["class = class + 1", "look", "quit", "class = a", "a = fit // 2", "class = 2", "class = bits len", "class = len",
              "class = full"]
POOLS = [("+", "-"), ("<", "<=", "is"), ("low", "holes", "a", "b", "c", "edge", "len", "slot", "slots", "size"), ("p", "q"), ("h", "i")]


def tweaked(rng, text, lines):
    """A text with one to three slips; it need not have the right forms any more."""
    rows = text.split("\n") if text else []
    for _ in range(rng.randint(1, 3)):
        k, at, other = rng.randint(0, 4), rng.randrange(len(rows) + 1), rng.randrange(len(rows) + 1)
        if k == 1 or max(at, other) >= len(rows):
            rows.insert(at, rng.choice(lines))
        elif k == 0:
            del rows[at]
        elif k == 2:
            words = rows[at].split(" ")
            j = rng.randrange(len(words))
            if words[j].isdigit():
                words[j] = str(max(0, int(words[j]) + rng.choice([-1, 1])))
            for pool in POOLS:
                if words[j] in pool:
                    words[j] = rng.choice(pool)
            rows[at] = " ".join(words)
        elif k == 3:
            rows[at], rows[other] = rows[other], rows[at]
        elif "=" in rows[at]:
            rows[at] += rng.choice([" + 1", " - 1", " + b"])
    return "\n".join(rows)


def made(make):
    """What is made, once that is without an error."""
    while True:
        try:
            return make()
        except HeldError:
            pass


def some_program(rng, chance, **more):
    """A program, each part of which has slips with some chance."""
    def slip(text, lines, less=1):
        return tweaked(rng, text, lines) if rng.random() < chance / less else text

    rules = more.get("rules", rng.choice(RULES))
    pages = [made(lambda: PageCode(kind, rules, slip(text, PAGE_LINES)))
             for kind, text in (("put", PUT), ("strike", rng.choice([STRIKE, SHRINK])), ("set", STRETCH))]
    give, look = more.get("ids", rng.choice(IDS))
    free = more.get("free", rng.choice(FREES))
    ids = made(lambda: Ids(give_code(slip(give, ID_LINES)), free_code(slip(free, ID_LINES, 2)), look_code(slip(look, ID_LINES)),
                           more.get("none", 0)))
    classes, asks = more.get("room", rng.choice(ROOMS))
    room = made(lambda: RoomCode(rules, more.get("top", rng.choice([255, 64, 20, 5])), RoomText("class", slip(classes, ROOM_LINES, 2)),
                                 RoomText("ask", slip(asks, ROOM_LINES, 2)), rng.choice([0, 0, 3, 9]), rng.choice([0, 0, 3, 9]),
                                 rng.choice(["behind", "behind", "ahead"]) if "top" not in more else "behind"))
    deeds = [made(lambda: DeedCode(kind, slip(text, DEED_LINES)))
             for kind, text in (("enter", ENTER), ("leave", LEAVE), ("change", rng.choice([CHANGE, CHANGE, MOVE, COPY])))]
    keep = BookRules(rng.choice(["size", "size", "size - 1", "3"]))
    book = [made(lambda: BookCode(kind, keep, slipped(rng, kind) if rng.random() < chance else BOOK[kind])) for kind in BOOK]
    return Program(pages, ids, room, deeds, book, rng.choice([1, 2, 3, 9]), more.get("outside", rng.random() < 0.6))


def some_sizes(rng, program, most=90):
    """A page size and a size of the book for a program."""
    rules, book = program.page_codes[0].rules, program.book_codes[0].rules
    sizes = [size for size in range(1, most) if rules.in_use(size) and (rules.most is None or size <= rules.most)]
    return rng.choice(sizes[len(sizes) // 4:]), rng.choice([size for size in range(1, 9) if book.in_use(size)])


def some_page(rng, rules, size):
    """A right page of a size, or None."""
    row, low = [], size
    for _ in range(rng.randint(0, 4)):
        length = rng.randint(1, 9)
        if rng.random() < 0.4:
            row.append(None)
        elif low - rules.room(length) >= rules.head + rules.slot * 5:
            low -= rules.room(length)
            row.append((low, length))
    if rules.head + rules.slot * len(row) > low or rules.most is not None and low > rules.most:
        return None
    return (size, low, tuple(row))
