"""[7], [8], [9], [12], [13], [14]: plays of page codes on page cases."""

import unittest

from heldplaces.errors import BadHanded, BadPage
from heldplaces.pagecodes import PageCode
from heldplaces.pageplay import play_page
from heldplaces.pagerules import PageRules
from pagebrute import handed_values, pages
from samples import EIGHT, PLAIN, SHORT, STRETCH, STRIKE, TWICE, pack_code, put_code, set_code, strike_code

PAGE = (20, 16, (None, (18, 1)))
TOP = PageRules(0, 1, 1, 10)


def ended(kind, text, page, handed=None, rules=PLAIN):
    return play_page(PageCode(kind, rules, text), page, handed).ended


class TestPages(unittest.TestCase):
    def refused(self, rules, page, code=None):
        code = PageCode("pack", rules, "") if code is None else code
        with self.assertRaises(BadPage) as caught:
            play_page(code, page)
        self.assertIs(caught.exception.page, page)

    def test_right_pages(self):
        for rules, page in [(PLAIN, (8, 8, ())), (PLAIN, (20, 16, (None, (18, 1)))), (PLAIN, (12, 12, (None,))),
                            (PLAIN, (20, 12, ((19, 1),))), (PLAIN, (20, 16, ((18, 2), (16, 2)))),
                            (EIGHT, (40, 32, ((32, 1),))), (EIGHT, (48, 32, ((40, 8), (32, 5)))),
                            (TOP, (11, 10, ((10, 1),))), (TOP, (10, 10, ())), (PageRules(0, 1, 1), (1, 0, ())),
                            (PageRules(0, 1, 1), (10 ** 60, 10 ** 60, ()))]:
            play_page(PageCode("pack", rules, ""), page)

    def test_pages_with_one_fault(self):
        for rules, page in [
                (PLAIN, (20, 15, (None, None))), (PLAIN, (20, 21, ())), (PLAIN, (20, 16, ((15, 2),))),
                (PLAIN, (20, 16, ((19, 2),))), (PLAIN, (20, 16, ((16, 2), (17, 2)))),
                (PLAIN, (20, 16, ((17, 1), (17, 1)))), (PLAIN, (7, 7, ())), (PLAIN, (20, 16, ((18, 0),))),
                (PLAIN, (20, 16, ((18, -1),))), (EIGHT, (42, 32, ())), (EIGHT, (40, 36, ())),
                (EIGHT, (40, 32, ((33, 1),))), (EIGHT, (48, 32, ((32, 9), (40, 1)))), (EIGHT, (40, 32, ((36, 4),))),
                (TOP, (11, 11, ())), (TOP, (12, 10, ())), (EIGHT, (16, 16, ())), (EIGHT, (40, 24, (None,)))]:
            self.refused(rules, page)

    def test_values_that_are_no_pages(self):
        for page in (None, True, 20, "page", [20, 16, ()], (20, 16), (20, 16, (), 0), (20, 16, []), (20, 16, None),
                     (20, 16, ([18, 1],)), (20, 16, ((18,),)), (20, 16, ((18, 1, 1),)), (20, 16, (18,)),
                     (20, 16, ((True, 1),)), (20, 16, ((18, True),)), (20, 16, ((18, None),)), (20, True, ()),
                     (True, 1, ()), (20, None, ()), ("20", 16, ()), (0, 0, ()), (-8, -8, ()), (20.0, 16, ()),
                     (20, 16, "")):
            self.refused(PLAIN, page)
        self.refused(PageRules(0, 1, 1), (True, 0, ()))

    def test_handed(self):
        row = (None, (18, 1))
        right = {"put": [1, 10 ** 60], "strike": [1], "set": [(1, 1), (1, 10 ** 60)], "pack": [None]}
        wrong = {
            "put": [0, -1, None, True, "3", 1.0, (1,)],
            "strike": [0, 2, -1, None, True, "1", (1,)],
            "set": [(0, 1), (2, 1), (-1, 1), (1, 0), (1, -1), (True, 1), (1, True), [1, 1], (1,), (1, 1, 1), 1, None],
            "pack": [0, 1, True, False, (), "x"],
        }
        codes = {"put": put_code(), "strike": strike_code(), "set": set_code(), "pack": pack_code()}
        for kind, code in codes.items():
            for handed in right[kind]:
                play_page(code, (20, 16, row), handed)
            for handed in wrong[kind]:
                with self.assertRaises(BadHanded) as caught:
                    play_page(code, (20, 16, row), handed)
                self.assertIs(caught.exception.handed, handed)
                with self.assertRaises(BadPage):
                    play_page(code, (20, 15, row), handed)
        with self.assertRaises(BadHanded):
            play_page(put_code(), (20, 16, row))
        play_page(handed=3, page=(20, 16, row), code=put_code())


class TestExamples(unittest.TestCase):
    def test_put(self):
        one = play_page(put_code(), (20, 20, ()), 5)
        self.assertEqual([one.ended, one.row, one.slots, one.low, one.holes, one.own, one.written, one.broken],
                         ["done", ((15, 5),), 1, 15, 0, 0, True, ()])
        two = play_page(put_code(), PAGE, 3)
        self.assertEqual([two.row, two.low, two.holes, two.own, play_page(put_code(), PAGE, 4).ended],
                         [((16, 3), (19, 1)), 16, 0, 0, "refused"])

    def test_broken(self):
        short = play_page(put_code(SHORT), (9, 9, ()), 1)
        self.assertEqual([short.broken, short.spoilt], [("whole", "lawful"), (-1,)])
        self.assertEqual(play_page(strike_code(), PAGE, 1).row, (None, None))
        self.assertEqual(play_page(strike_code(TWICE), (20, 15, ((15, 5),)), 0).broken, ("books",))
        self.assertEqual(play_page(strike_code(), PAGE, 1).lines(), (1, 2, 3))
        self.assertEqual(play_page(strike_code(TWICE), PAGE, 1).sides(), ((2, False),))


class TestBeyond(unittest.TestCase):
    def beyond(self, kind, text, page=PAGE, handed=None, rules=PLAIN, line=None):
        play = play_page(PageCode(kind, rules, text), page, handed)
        self.assertEqual(play.ended, "beyond", text)
        self.assertIn("inside", play.broken)
        last = text.count("\n") + 1 if line is None else line
        self.assertEqual(play.lines()[-1], last, text)
        return play

    def test_own_is_none(self):
        for line in ("a = own.at", "low = own.len", "own.at = 1", "own.len = 1", "if own is last", "if 1 < own.at",
                     "if a < 1 and own.len is 1", "lay own.at", "a = own.at // 2"):
            text = "a = 0\n" + line
            self.beyond("put", text + "\nend" if "if" in line else text, handed=1, line=2)
        self.assertEqual(ended("put", "if 1 < 0 and own is last\nend", PAGE, 1), "done")

    def test_own_has_not_got_it(self):
        for take in ("take empty", "take next"):
            self.beyond("put", take + "\na = own.at", handed=1)
            self.beyond("put", take + "\nown.at = 3\na = own.len", handed=1)
            self.assertEqual(ended("put", take + "\nown.at = 3\na = own.at\nif own is last\nend", PAGE, 1), "done")
        for line in ("a = own.at", "a = own.len", "a = room own.len", "own.at = own.at"):
            self.beyond("strike", "clear own\n" + line, handed=1)
            self.assertEqual(ended("strike", line, PAGE, 1), "done")
        self.beyond("set", "clear own\nown.at = 1\na = room own.len", handed=(1, 1))

    def test_no_slot_is_empty(self):
        self.beyond("put", "take empty", (20, 16, ((18, 1),)), 1)
        self.beyond("put", "take empty", (20, 16, ()), 1)
        self.assertEqual(ended("put", "take empty", PAGE, 1), "done")

    def test_numbers_below_and_above(self):
        for name in ("low", "holes", "own.at"):
            self.beyond("strike", name + " = 0 - 1", handed=1)
            self.assertEqual(ended("strike", name + " = 0", PAGE, 1), "done")
            self.assertEqual(ended("strike", name + " = 99", PAGE, 1), "done")
            page = (10, 5, ((9, 1),))
            self.beyond("strike", name + " = 11", page, 0, TOP)
            self.assertEqual(ended("strike", name + " = 10", page, 0, TOP), "done")
        self.beyond("strike", "own.len = 0", handed=1)
        self.beyond("strike", "own.len = 0 - 1", handed=1)
        self.assertEqual(ended("strike", "own.len = 1", PAGE, 1), "done")
        self.beyond("set", "own.len = len", (10, 5, ((9, 1),)), (0, 11), TOP)
        self.assertEqual(ended("set", "own.len = len", (10, 5, ((9, 1),)), (0, 10), TOP), "done")
        self.beyond("put", "slots = slots + 1", (3, 3, (None,) * 3), 1, PageRules(0, 1, 1, 3))
        self.assertEqual(ended("put", "slots = slots + 1", (3, 3, (None,) * 2), 1, PageRules(0, 1, 1, 3)), "done")

    def test_lay(self):
        for start, length, how in [("0", 20, "done"), ("0", 21, "beyond"), ("19", 1, "done"), ("20", 1, "beyond"),
                                   ("0 - 1", 1, "beyond"), ("18", 3, "beyond"), ("18", 2, "done")]:
            self.assertEqual(ended("put", "lay " + start, PAGE, length), how)

    def test_beyond_changes_nothing(self):
        play = self.beyond("put", "low = 3\nholes = 7\nlow = 1 - 2\nno", handed=1, line=3)
        self.assertEqual((play.low, play.holes, play.spoilt, play.written), (3, 7, (), False))
        play = self.beyond("put", "lay 18\nlow = 1 - 2", handed=1)
        self.assertEqual((play.spoilt, play.broken), ((1,), ("inside", "whole")))
        play = self.beyond("put", "take next\nlay 0 - 1", handed=1)
        self.assertEqual((play.own, play.slots, play.row), (2, 2, PAGE[2]))


class TestSteps(unittest.TestCase):
    def left(self, kind, text, page=PAGE, handed=None, rules=PLAIN):
        return play_page(PageCode(kind, rules, text), page, handed)

    def low(self, terms, page=PAGE, handed=3, ahead="", rules=PLAIN):
        return self.left("put", ahead + "a = " + terms + "\nlow = a", page, handed, rules).low

    def test_names(self):
        names = {"size": 20, "head": 8, "slot": 4, "unit": 1, "slots": 2, "low": 16, "holes": 3, "edge": 16, "len": 3,
                 "b": 0, "7 + 5 - 3 - 2": 7, "size // 3": 6, "size - 1 // 3": 6}
        for terms, worth in names.items():
            self.assertEqual(self.low(terms), worth, terms)
        self.assertEqual(self.low("slots", ahead="slots = slots + 1\n"), 3)
        self.assertEqual(self.low("edge", ahead="slots = slots + 1\n"), 20)
        self.assertEqual(self.low("holes", ahead="holes = 9\n"), 9)
        self.assertEqual(self.low("b + 4", ahead="b = 0 - 7 // 2\n"), 0)

    def test_rooms(self):
        page = (40, 32, ((32, 3),))
        self.assertEqual(self.left("set", "a = room len\nlow = a", page, (0, 9), EIGHT).low, 16)
        self.assertEqual(self.left("set", "a = room own.len\nlow = a", page, (0, 9), EIGHT).low, 8)
        self.assertEqual(self.left("set", "own.len = 17\na = room own.len\nlow = a", page, (0, 9), EIGHT).low, 24)

    def test_takes(self):
        one = self.left("put", "take next\nown.at = 9\nown.len = 1", PAGE, 1)
        self.assertEqual((one.own, one.slots, one.row), (2, 2, PAGE[2]))
        two = self.left("put", "take next\nown.at = 9\nown.len = 1\nslots = slots + 1", PAGE, 1)
        self.assertEqual((two.own, two.row), (2, PAGE[2] + ((9, 1),)))
        three = self.left("put", "take empty\nslots = slots + 1\nown.at = 9", PAGE, 1)
        self.assertEqual((three.own, three.row), (0, PAGE[2] + (None,)))

    def test_slots_less(self):
        page = (30, 24, ((24, 1), (25, 2), (28, 2)))
        own = self.left("strike", "slots = slots - 1\nlow = own.at\nholes = own.len", page, 2)
        self.assertEqual((own.row, own.low, own.holes, own.broken), (page[2][:2], 28, 2, ("lawful", "books")))
        other = self.left("strike", "slots = slots - 1\nclear own", page, 0)
        self.assertEqual((other.row, other.broken), ((None, (25, 2)), ("owed",)))

    def test_own_is_last(self):
        text = "if own is last\nlow = 0\nend"
        self.assertEqual([self.left("strike", text, (20, 16, ((16, 1), (18, 1))), k).low for k in (0, 1)], [16, 0])
        less = "slots = slots - 1\n" + text
        self.assertEqual([self.left("strike", less, (20, 16, ((16, 1), (18, 1))), k).low for k in (0, 1)], [0, 16])
        self.assertEqual(self.left("put", "take next\n" + text, PAGE, 1).low, 16)
        self.assertEqual(self.left("put", "take next\nslots = slots + 1\n" + text, PAGE, 1).low, 0)

    def test_pack(self):
        page = (40, 20, ((30, 2), None, (22, 3)))
        self.assertEqual(self.left("pack", "pack", page).row, ((38, 2), None, (35, 3)))
        self.assertEqual(self.left("strike", "clear own\npack", page, 0).row, (None, None, (37, 3)))
        self.assertEqual(self.left("strike", "pack\nclear own", page, 0).row, (None, None, (35, 3)))
        self.assertEqual(self.left("pack", "pack", (64, 32, ((32, 9), (56, 3))), None, EIGHT).row, ((40, 9), (56, 3)))

    def test_tests(self):
        for test, side in [("1 < 2", True), ("2 < 1", False), ("not 2 < 1", True), ("2 <= 1", False), ("a <= b", True),
                           ("1 is 2", False), ("not 1 is 2", True), ("there is empty", True), ("a is b", True),
                           ("not there is empty", False), ("1 < 2 and 2 < 1", False), ("1 < 2 and not 2 < 1", True)]:
            play = self.left("put", "if " + test + "\nlow = 1\nelse\nlow = 2\nend\nquit", PAGE, 1)
            self.assertEqual((play.low, play.sides(), play.lines()),
                             (1 if side else 2, ((1, side),), (1, 2, 6) if side else (1, 4, 6)))

    def test_spoilt(self):
        page = (40, 20, ((30, 2), None, (22, 3)))
        for start, length, spoilt in [("25", 5, ()), ("24", 1, (2,)), ("24", 7, (0, 2)), ("31", 1, (0,)), ("19", 1, (-1,)),
                                      ("0", 40, (-1, 0, 2)), ("20", 2, ()), ("20", 3, (2,)), ("32", 8, ())]:
            play = self.left("put", "lay " + start, page, length)
            self.assertEqual((play.spoilt, "whole" in play.broken), (spoilt, spoilt != ()))
        self.assertEqual(self.left("put", "slots = slots + 1\nlay 20", page, 1).spoilt, (-1,))
        self.assertEqual(self.left("set", "lay 22", page, (2, 9)).spoilt, (0,))
        self.assertEqual(self.left("set", "lay 30", page, (0, 2)).spoilt, ())
        self.assertEqual(self.left("put", "lay 24\nno", page, 1).broken, ("whole", "full"))
        self.assertEqual(self.left("put", "lay 38", (64, 64, ()), 1, EIGHT).spoilt, ())
        self.assertEqual(self.left("put", "lay 36", (40, 32, ((32, 3),)), 1, EIGHT).spoilt, ())

    def test_written(self):
        for text, written in [("take next\nown.at = 18\nlay 18", True), ("take next\nlay 18\nown.at = 18", True),
                              ("take next\nown.at = 18", False), ("lay 18", False), ("take next\nlay 18", False),
                              ("take next\nown.at = 18\nlay 17", False), ("lay 18\ntake empty\nown.at = 18", True)]:
            self.assertEqual(self.left("put", text, PAGE, 1).written, written, text)
        self.assertEqual(self.left("set", "lay 18\nclear own", PAGE, (1, 1)).written, False)
        self.assertEqual(self.left("set", "lay 18", PAGE, (1, 1)).written, True)
        self.assertEqual(self.left("set", "lay own.at\nown.at = 17", PAGE, (1, 1)).written, False)


class TestPromises(unittest.TestCase):
    def broken(self, kind, text, page, handed=None, rules=PLAIN):
        return play_page(PageCode(kind, rules, text), page, handed).broken

    def test_owed_of_put(self):
        page = (20, 20, ())
        whole = "take next\nslots = slots + 1\nlow = size - len\nown.at = low\nown.len = len\nlay low"
        self.assertEqual(self.broken("put", whole, page, 2), ())
        for line in ("take next\n", "slots = slots + 1\n", "own.len = len\n", "\nlay low"):
            text = whole.replace(line, "")
            if line == "take next\n":
                self.assertEqual(self.broken("put", text, page, 2), ("inside",))
            else:
                self.assertEqual(self.broken("put", text, page, 2), ("owed",), text)
        self.assertEqual(self.broken("put", whole.replace("own.len = len", "own.len = 1"), page, 2), ("owed",))
        self.assertEqual(self.broken("put", "", page, 2), ("owed",))
        self.assertEqual(self.broken("put", whole.replace("lay low", "lay 17"), page, 2), ("owed",))

    def test_owed_of_strike_and_set(self):
        page = (20, 16, ((16, 2), (18, 1)))
        self.assertEqual(self.broken("strike", "", page, 1), ("owed",))
        self.assertEqual(self.broken("strike", STRIKE, page, 1), ())
        self.assertEqual(self.broken("strike", "clear own\nown.at = 18", page, 1), ("books",))
        self.assertEqual(self.broken("strike", "clear own\nown.at = 18\nown.len = 1", page, 1), ("owed",))
        self.assertEqual(self.broken("set", "", page, (1, 1)), ("owed",))
        self.assertEqual(self.broken("set", "lay own.at", page, (1, 1)), ())
        self.assertEqual(self.broken("set", "lay own.at\nown.len = len", page, (1, 2)), ("books",))
        self.assertEqual(self.broken("set", "lay own.at", page, (1, 2)), ("owed",))
        self.assertEqual(self.broken("set", STRETCH, page, (1, 2)), ())

    def test_pack(self):
        page = (20, 14, ((18, 1),))
        self.assertEqual(self.broken("pack", "", page), ("owed",))
        self.assertEqual(self.broken("pack", "low = 19", page), ("lawful", "books"))
        self.assertEqual(self.broken("pack", "low = 19\nholes = 0", page), ("lawful",))
        self.assertEqual(self.broken("pack", "low = 19\npack", page), ("books",))
        self.assertEqual(self.broken("pack", "low = 19\nholes = 0\npack", page), ())

    def test_lawful(self):
        page = (24, 20, (None, (20, 3)))
        text = "holes = holes - len\ntake empty\nown.at = {}\nown.len = len\nlay own.at\nlow = {}"
        for at, low, length, broken in [(23, 20, 1, ()), (23, 21, 1, ("lawful", "books")), (22, 20, 1, ("whole", "lawful")),
                                        (23, 15, 1, ("lawful", "books"))]:
            self.assertEqual(self.broken("put", text.format(at, low), page, length), broken, (at, low))
        wide = PageRules(0, 1, 4)
        put = "take empty\nown.at = {}\nown.len = len\nlay own.at\nholes = holes - 4\nlow = {}"
        self.assertEqual(self.broken("put", put.format(12, 4), (16, 4, (None,)), 3, wide), ())
        self.assertEqual(self.broken("put", put.format(13, 4), (16, 4, (None,)), 3, wide), ("lawful",))
        self.assertEqual(self.broken("put", put.format(12, 5), (16, 4, (None,)), 3, wide), ("lawful", "books"))
        self.assertEqual(self.broken("put", put.format(14, 4), (16, 4, (None,)), 1, wide), ("lawful",))

    def test_full(self):
        page = (20, 12, ((18, 2),))
        for length, broken in [(1, ("full",)), (2, ("full",)), (3, ())]:
            self.assertEqual(self.broken("put", "no", page, length), broken)
        empty = (20, 12, (None,))
        for length, broken in [(8, ("full",)), (9, ())]:
            self.assertEqual(self.broken("put", "no", empty, length), broken)
        for length, broken in [(8, ("full",)), (9, ())]:
            self.assertEqual(self.broken("set", "no", page, (0, length)), broken)
        for line in ("low = low", "holes = holes", "take next", "pack", "lay 11", "slots = slots + 1"):
            play = play_page(PageCode("put", PLAIN, line + "\nno"), page, 9)
            self.assertIn("full", play.broken, line)
        for line in ("own.at = 18", "own.len = 2", "clear own", "lay 11"):
            self.assertIn("full", self.broken("set", line + "\nno", (20, 12, ((18, 2),)), (0, 9)), line)
        self.assertEqual(self.broken("put", "a = 1\nif a < 0\nend\nno", page, 3), ())

    def test_right_codes_break_nothing(self):
        for rules in (PageRules(1, 2, 1), PageRules(1, 1, 2, 6)):
            for code in (put_code(rules=rules), strike_code(rules=rules), set_code(rules=rules), pack_code(rules=rules)):
                for size in range(1, 8):
                    for page in pages(rules, size):
                        for handed in handed_values(code, page, 2):
                            play = play_page(code, page, handed)
                            self.assertEqual(play.broken, ())
                            if play.ended == "done":
                                left = (size, play.low, play.row)
                                play_page(PageCode("pack", rules, ""), left)


if __name__ == "__main__":
    unittest.main()
