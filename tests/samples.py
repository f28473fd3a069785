"""Codes that several tests use: those of the document, and some more that keep all promises."""

from heldplaces.bookcodes import BookCode
from heldplaces.bookrules import BookRules
from heldplaces.deedcodes import DeedCode
from heldplaces.idcodes import IdCode
from heldplaces.ids import Ids
from heldplaces.pagecodes import PageCode
from heldplaces.pagerules import PageRules
from heldplaces.program import Program
from heldplaces.roomcodes import RoomCode, RoomText

PLAIN = PageRules(8, 4, 1)
EIGHT = PageRules(20, 6, 8, 65535)
AHEAD = ("a = room len\nb = low - edge\nif not there is empty\nb = b - slot\nend\nc = b + holes\nif c < a\nno\nend\n"
         "if b < a\npack\nlow = low + holes\nholes = 0\nend\n")
TAKING = "if there is empty\ntake empty\nelse\ntake next\nslots = slots + 1\nend\n"
BEHIND = "low = low - a\nown.at = low\nown.len = len\nlay low"
PUT = AHEAD + TAKING + BEHIND
SHORT = PUT.replace("b = b - slot\n", "")
STRIKE = "a = room own.len\nclear own\nholes = holes + a"
TWICE = "a = room own.len\nif own.at is low\nlow = low + a\nend\nclear own\nholes = holes + a"
SHRINK = ("a = room own.len\nif own.at is low\nlow = low + a\nelse\nholes = holes + a\nend\nclear own\n"
          "if own is last\nslots = slots - 1\nend")
STRETCH = ("a = room len\nb = room own.len\nc = low - edge + holes + b\nif c < a\nno\nend\nclear own\nholes = holes + b\n"
           "pack\nlow = low + holes\nholes = 0\nlow = low - a\nown.at = low\nown.len = len\nlay low")
PACK = "pack\nlow = low + holes\nholes = 0"
ALL = ("inside", "whole", "owed", "lawful", "books", "full")

GIVE = ("stamp = stamp + 1\nstamp = stamp & 4095\na = page << 10\na = a + slot\n"
        "word = stamp << 32\nword = word + a")
LOOK = ("a = word >> 32\nb = word & 4294967295\npage = b >> 10\nslot = b & 1023\n"
        "if lent and a is stamp\naccept\nend")

ENTER = "lay p\non full\nquit no\nend\ngive h p\non out\nstrike p\nquit no\nend\nenter h"
FIND = "find h\non none\nquit no\nend\nlook h p\non stale\nquit no\nend\n"
NEXT = "lay q\non full\nquit no\nend\ngive i q\non out\nstrike q\nquit no\nend\nenter i"
LEAVE = FIND + "strike p\nfree p\nleave"
CHANGE = FIND + "stretch p\non full\nquit no\nend\non bare\nquit no\nend"
CARELESS = ENTER.replace("strike p\n", "")
MOVE = FIND + "strike p\nfree p\n" + NEXT
COPY = FIND + NEXT + "\nstrike p\nfree p"


def put_code(text=PUT, rules=PLAIN):
    return PageCode("put", rules, text)


def strike_code(text=STRIKE, rules=PLAIN):
    return PageCode("strike", rules, text)


def set_code(text=STRETCH, rules=PLAIN):
    return PageCode("set", rules, text)


def pack_code(text=PACK, rules=PLAIN):
    return PageCode("pack", rules, text)


def give_code(text=GIVE):
    return IdCode("give", text)


def free_code(text=""):
    return IdCode("free", text)


def look_code(text=LOOK):
    return IdCode("look", text)


NOTE = ("if own is keep\nno\nend\nif many is keep\na = wrap next - many\nb = sealed a\nmany = many - b\nend\n"
        "if own is 0\nmark = next\nend\nwrite next\nnext = wrap next + 1\nmany = many + 1\nown = own + 1\nmore = 0")
FAIL = "many = many - own\nback own times\nown = 0\nmark = next"
UNTIL = "many = many - own\nback until mark\nown = 0"
UNDO = ("if many is 0\nno\nend\na = wrap next - 1\nb = sealed a\nback b times\nmany = many - b\nmore = more + b\n"
        "mark = next")
REDO = "if more is 0\nno\nend\nb = sealed next\nagain b times\nmany = many + b\nmore = more - b\nmark = next"
FORGETS_ONE = NOTE.replace("a = wrap next - many\nb = sealed a\nmany = many - b", "many = many - 1")
TURNED = NOTE.replace("next = wrap next + 1", "next = next + 1\nif next is 64\nnext = 0\nend")
BOOK = {"note": NOTE, "fail": FAIL, "undo": UNDO, "redo": REDO}
WHOLE = BookRules("size")
LESS = BookRules("size - 1")


def book_code(kind, text=None, rules=WHOLE):
    return BookCode(kind, rules, BOOK[kind] if text is None else text)


def book_codes(rules=WHOLE, **texts):
    """The four book codes, with other texts for some kinds."""
    return [book_code(kind, texts.get(kind), rules) for kind in BOOK]


RETIRING = "if stamp is 4095\nretire\nend"
# Ids with stamps from 0 to 7 for 16 pages and 16 slots, and ids with stamps from 0 to 3 for 4 pages and 4 slots.
GIVE_EIGHT = "stamp = stamp + 1\nstamp = stamp & 7\na = page << 4\na = a + slot\nword = stamp << 8\nword = word + a"
LOOK_EIGHT = "a = word >> 8\nb = word & 255\npage = b >> 4\nslot = b & 15\nif lent and a is stamp\naccept\nend"
GIVE_FOUR = "stamp = stamp + 1\nstamp = stamp & 3\na = page << 2\na = a + slot\nword = stamp << 4\nword = word + a"
LOOK_FOUR = "a = word >> 4\nb = word & 15\npage = b >> 2\nslot = b & 3\nif lent and a is stamp\naccept\nend"
DEEDS = {"enter": ENTER, "leave": LEAVE, "change": CHANGE}
MOST_TOP = 10 ** 30 - 1


def ids_of(give=GIVE, free=RETIRING, look=LOOK, none=0):
    return Ids(give_code(give), free_code(free), look_code(look), none)


def room_code(classes="class = fit", asks="class = len", rules=PLAIN, top=MOST_TOP, **more):
    return RoomCode(rules, top, RoomText("class", classes), RoomText("ask", asks), **more)


def deed_codes(**texts):
    """The three deeds, with other texts for some kinds."""
    return [DeedCode(kind, texts.get(kind, text)) for kind, text in DEEDS.items()]


def program_of(rules=PLAIN, put=PUT, strike=STRIKE, stretch=STRETCH, ids=None, room=None, deeds=None, book=None, pages=2, outside=False):
    """A program that is right wherever its room code is, but for the parts that are told."""
    codes = [put_code(put, rules), strike_code(strike, rules), set_code(stretch, rules)]
    return Program(codes, ids_of() if ids is None else ids, room_code(rules=rules) if room is None else room,
                   deed_codes() if deeds is None else deeds, book_codes() if book is None else book, pages, outside)
