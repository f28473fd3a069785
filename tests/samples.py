"""Codes that several tests use: those of the document, and some more that keep all promises."""

from heldplaces.idcodes import IdCode
from heldplaces.pagecodes import PageCode
from heldplaces.pagerules import PageRules

PLAIN = PageRules(8, 4, 1)
EIGHT = PageRules(20, 6, 8, 65535)
AHEAD = ("a = room len\nb = low - edge\nif not there is empty\nb = b - slot\nend\nc = b + holes\nif c < a\nno\nend\n"
         "if b < a\npack\nlow = low + holes\nholes = 0\nend\n")
TAKING = "if there is empty\ntake empty\nelse\ntake next\nslots = slots + 1\nend\n"
BEHIND = "low = low - a\nown.at = low\nown.len = len\nlay low"
PUT = AHEAD + TAKING + BEHIND
SHORT = PUT.replace("b = b - slot\n", "")
STRIKE = "a = room own.len\nclear own\nholes = holes + a"
TWICE = "a = room own.len\nif own.at is low\nlow = low + a\nend\nclear own\nholes = holes + a"
SHRINK = ("a = room own.len\nif own.at is low\nlow = low + a\nelse\nholes = holes + a\nend\nclear own\n"
          "if own is last\nslots = slots - 1\nend")
STRETCH = ("a = room len\nb = room own.len\nc = low - edge + holes + b\nif c < a\nno\nend\nclear own\nholes = holes + b\n"
           "pack\nlow = low + holes\nholes = 0\nlow = low - a\nown.at = low\nown.len = len\nlay low")
PACK = "pack\nlow = low + holes\nholes = 0"
ALL = ("inside", "whole", "owed", "lawful", "books", "full")

GIVE = ("stamp = stamp + 1\nstamp = stamp & 4095\na = page << 10\na = a + slot\n"
        "word = stamp << 32\nword = word + a")
LOOK = ("a = word >> 32\nb = word & 4294967295\npage = b >> 10\nslot = b & 1023\n"
        "if lent and a is stamp\naccept\nend")

ENTER = "lay p\non full\nquit no\nend\ngive h p\non out\nstrike p\nquit no\nend\nenter h"
FIND = "find h\non none\nquit no\nend\nlook h p\non stale\nquit no\nend\n"
NEXT = "lay q\non full\nquit no\nend\ngive i q\non out\nstrike q\nquit no\nend\nenter i"
LEAVE = FIND + "strike p\nfree p\nleave"
CHANGE = FIND + "stretch p\non full\nquit no\nend\non bare\nquit no\nend"
CARELESS = ENTER.replace("strike p\n", "")
MOVE = FIND + "strike p\nfree p\n" + NEXT
COPY = FIND + NEXT + "\nstrike p\nfree p"


def put_code(text=PUT, rules=PLAIN):
    return PageCode("put", rules, text)


def strike_code(text=STRIKE, rules=PLAIN):
    return PageCode("strike", rules, text)


def set_code(text=STRETCH, rules=PLAIN):
    return PageCode("set", rules, text)


def pack_code(text=PACK, rules=PLAIN):
    return PageCode("pack", rules, text)


def give_code(text=GIVE):
    return IdCode("give", text)


def free_code(text=""):
    return IdCode("free", text)


def look_code(text=LOOK):
    return IdCode("look", text)
