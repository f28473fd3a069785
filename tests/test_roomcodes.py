"""[27], [28]: room texts and room codes."""

import unittest

from heldplaces.errors import BadKind, BadLine, BadRule, OtherFactors, OtherKinds, Refused, TooMany
from heldplaces.pagerules import PageRules
from heldplaces.roomcodes import RoomCode, RoomText

KINDS = ("class", "ask")
PLAIN = PageRules(8, 4, 1)
BY, UP = RoomText("class", "class = fit // 32"), RoomText("ask", "class = len + 31 // 32")
BITS = "class = bits size\n"


class Base(unittest.TestCase):
    def line_of(self, error, text, kind="ask"):
        with self.assertRaises(error) as caught:
            RoomText(kind, text)
        return caught.exception.line

    def check(self, line, kinds=KINDS):
        """A line that is a form for some kinds, and none for the other ones."""
        closed = line + "\nend" if line.startswith("if") else line
        for kind in KINDS:
            if kind in kinds:
                self.assertEqual(RoomText(kind, closed)[1], line)
            else:
                self.assertEqual(self.line_of(BadLine, closed, kind), 1, (kind, line))
                self.assertEqual(self.line_of(BadLine, "a = 1\n" + closed, kind), 2, (kind, line))


class TestForms(Base):
    def test_sums(self):
        for tail in ("1", "0", "size", "full - top + class", "a - b - 4 + size", "9" * 30, "1 + 1"):
            for name in ("class", "a", "b"):
                self.check(name + " = " + tail)
        for tail in ("", "a + a", "a +", "+ a", "1 + 2 + 3 + 4 + 5", "9" * 31, "01", "-1", "unit", "head", "page", "fit + 1 // ",
                     "a * 2", "a mod 2", "a >> 1", "(a)", "c", "slots"):
            self.check("a = " + tail, ())
        for line in ("size = 1", "full = 1", "top = 1", "fit = 1", "len = 1", "c = 1", "a == 1", "a 1", "a =", "= 1", "a"):
            self.check(line, ())

    def test_fit_and_len(self):
        for tail in ("fit", "1 + fit // 2", "bits fit - 1"):
            self.check("class = " + tail, ("class",))
            self.check("class = " + tail.replace("fit", "len"), ("ask",))
        self.check("if fit < 2", ("class",))
        self.check("if 3 is len and a < b", ("ask",))
        self.check("look", ("ask",))
        self.check("quit")

    def test_divisions(self):
        for number in (2, 3, 255, 256):
            self.check("a = size // " + str(number))
            self.check("class = 1 + 2 - size // " + str(number))
        for number in ("0", "1", "257", "02", "a", "", "9" * 30, "2 // 2", "2 + 1"):
            self.check("a = size // " + number, ())

    def test_bits(self):
        self.check("class = bits size - 4 + a")
        self.check("class = bits 7")
        self.check("class = bits class")
        for line in ("a = bits size", "b = bits 1", "class = bits", "class = bits a // 2", "class = bits bits a",
                     "class = 1 + bits a", "class = bits a + a", "bits a"):
            self.check(line, ())

    def test_words(self):
        for line in ("no", "accept", "refuse", "look look", "quit 1", "Quit", " quit", "quit ", "a  = 1", "a =  1",
                     "lay a", "there is empty", "fits"):
            self.check(line, ())

    def test_tests(self):
        for part in ("size < full", "a <= 4", "top is class", "not 1 < 2", "a < b and b < class and not size is 4 and 1 <= a"):
            self.check("if " + part)
        for part in ("a < a", "1 is 1", "a < b + 1", "a > b", "a < 1 and", "not not a < 1", "a", "", "lent", "class is unit",
                     "a < 1 and a < 2 and a < 3 and a < 4 and a < 5", "a is not 1"):
            self.check("if " + part, ())

    def test_blocks(self):
        text = RoomText("ask", "if a < 1\nif b < 1\nelse\nend\nlook\nelse\nend\nquit")
        self.assertEqual([len(text), text[1], text[5], text[8]], [8, "if a < 1", "look", "quit"])
        for body, line in [("end", 1), ("else", 1), ("if a < 1", 2), ("if a < 1\nelse\nelse\nend", 3), ("if a < 1\nend\nend", 3),
                           ("", None), ("a = 1\n", 2), ("\n", 1), ("if a < 1\nlook", 3), ("if a < 1\nx\n", 2)]:
            if line is None:
                self.assertEqual(len(RoomText("ask", body)), 0)
            else:
                self.assertEqual(self.line_of(BadLine, body), line)

    def test_kinds(self):
        for kind in ("Class", "put", "", None, 1, True, ["class"], ("ask",), {}, 1.5):
            with self.assertRaises(BadKind) as caught:
                RoomText(kind, "no such line\n" * 30)
            self.assertIs(caught.exception.kind, kind)


class TestLimits(Base):
    def test_lines_and_ifs(self):
        RoomText("ask", "\n".join(["look"] * 20))
        with self.assertRaises(TooMany) as caught:
            RoomText("ask", "\n".join(["no such line"] * 21))
        told = caught.exception
        self.assertEqual((told.what, told.many, told.most), ("lines", 21, 20))
        RoomText("ask", "\n".join(["if a < 1\nend"] * 4))
        with self.assertRaises(TooMany) as caught:
            RoomText("ask", "a = 1 // 2\na = 1 // 2\n" + "\n".join(["if a < 1\nend"] * 5))
        told = caught.exception
        self.assertEqual((told.what, told.many, told.most), ("ifs", 5, 4))
        self.assertEqual(self.line_of(BadLine, "\n".join(["if a < 1\nend"] * 5) + "\nx"), 11)

    def test_settings(self):
        for name in ("class", "a", "b"):
            line = name + " = 1"
            RoomText("ask", "\n".join([line] * 3))
            self.assertEqual(self.line_of(Refused, "\n".join([line] * 4)), 4)
            self.assertEqual(self.line_of(Refused, "\n".join([line] * 3 + ["look", name + " = size // 2"])), 5)
        RoomText("ask", "\n".join(["a = 1\nb = 1\nclass = 1"] * 3))
        self.assertEqual(self.line_of(Refused, "class = bits 1\nclass = 1\nclass = 1\nclass = 1"), 4)
        RoomText("ask", "a = 1\na = 2\nif b < 1\na = 3\nelse\na = 3\nend")
        self.assertEqual(self.line_of(Refused, "a = 1\na = 2\nif b < 1\na = 3\nelse\na = 3\nend\na = 4"), 8)
        RoomText("ask", "a = 1\na = 2\na = 3\nquit\na = 4\na = 5")

    def test_divisions(self):
        self.assertEqual(self.line_of(Refused, "a = size // 2\nb = size // 2"), 2)
        RoomText("ask", "if a < 1\na = size // 2\nelse\na = size // 4\nend")
        self.assertEqual(self.line_of(Refused, "if a < 1\na = size // 2\nend\na = size // 4"), 4)
        RoomText("ask", "a = size // 2\nquit\na = size // 2")
        RoomText("ask", "a = size // 2\nclass = bits a")

    def test_bits(self):
        self.assertEqual(self.line_of(Refused, BITS + "class = bits 4"), 2)
        self.assertEqual(self.line_of(Refused, BITS + "class = 4\nclass = bits 4"), 3)
        RoomText("ask", "if a < 1\nclass = bits a\nelse\nclass = bits b\nend")
        RoomText("ask", BITS + "quit\nclass = bits 2")

    def test_where_class_from_bits_stands(self):
        for line in ("class = class + 99", "class = 5 - 7 + class - 99", "class = class", "class = 1", "class = size + a",
                     "class = size // 2", "if class < 99\nend", "if top is class\nend", "if not 0 <= class and class < top\nend",
                     "if size < a\nend", "a = size", "a = size // 2"):
            self.assertEqual(len(RoomText("ask", BITS + line)), 2 + line.count("\n"))
        for line in ("class = class + 100", "class = 5 - class", "class = class + a", "class = class + top", "class = size + class",
                     "class = class // 2", "class = class + 1 // 2", "a = class", "b = 1 + class", "a = class // 4",
                     "if class < 100\nend", "if class is a\nend", "if size <= class\nend", "if class < size\nend",
                     "if 1 < 2 and full is class\nend", "class = class + " + "9" * 30):
            self.assertEqual(self.line_of(Refused, BITS + line), 2, line)
            self.assertEqual(self.line_of(Refused, BITS + "look\n" + line), 3, line)
            self.assertEqual(self.line_of(Refused, BITS + "if a < 1\nclass = 4\nend\n" + line), 5, line)
            self.assertEqual(self.line_of(Refused, BITS + "class = class + 3\n" + line), 3, line)
            RoomText("ask", line)
            RoomText("ask", BITS + "quit\n" + line)
            RoomText("ask", BITS + "class = 3\n" + line)
            RoomText("ask", BITS + "class = size // 2\nif a < 1\nend")

    def test_least_line(self):
        self.assertEqual(self.line_of(Refused, BITS + "if a < 1\na = class\nelse\nb = class\nend"), 3)
        self.assertEqual(self.line_of(Refused, "if a < 1\nelse\n" + BITS + "a = class\nend\na = 1\na = 1\na = 1\na = 1"), 4)
        self.assertEqual(self.line_of(Refused, "if a < 1\nquit\nend\n" + BITS + "a = class"), 5)

    def test_equal(self):
        one = RoomText("ask", "look")
        self.assertEqual((one.kind, one.text), ("ask", "look"))
        self.assertTrue(one == RoomText(kind="ask", text="look"))
        for other in (RoomText("ask", "quit"), RoomText("class", "quit"), "look", None, ("ask", "look")):
            self.assertFalse(one == other)
        self.assertFalse(RoomText("ask", "") == RoomText("class", ""))


class TestRoomCode(unittest.TestCase):
    def what_of(self, *values, **more):
        with self.assertRaises(BadRule) as caught:
            RoomCode(PLAIN, *values, **more)
        return caught.exception.what

    def test_numbers(self):
        for value in (0, 1, 10 ** 30 - 1):
            code = RoomCode(PLAIN, value, BY, UP, value, value, "ahead", value)
            self.assertEqual((code.top, code.fall, code.rise, code.waste), (value,) * 4)
        for value in (-1, 10 ** 30, 10 ** 5000, True, False, None, "1", 1.0, [1], (1,)):
            self.assertEqual(self.what_of(value, UP, BY, value, value, "x", value), "top")
            self.assertEqual(self.what_of(1, UP, BY, value, value, "x", value), "fall")
            self.assertEqual(self.what_of(1, UP, BY, 1, value, "x", value), "rise")
            self.assertEqual(self.what_of(1, UP, BY, 1, 1, "x", value), "waste")
        for value in ("Behind", "", None, 1, True, ["ahead"], {}):
            self.assertEqual(self.what_of(1, UP, BY, 1, 1, value, 1), "when")

    def test_order(self):
        bits = RoomText("class", "quit\nclass = bits size")
        three = RoomText("ask", "quit\na = size // 3")
        for classes, asks in ((UP, BY), (BY, BY), (UP, UP)):
            with self.assertRaises(OtherKinds) as caught:
                RoomCode(PLAIN, 65, classes, asks)
            self.assertEqual(caught.exception.part, "rooms")
        with self.assertRaises(TooMany) as caught:
            RoomCode(PageRules(8, 4, 2), 65, bits, three)
        told = caught.exception
        self.assertEqual((told.what, told.many, told.most), ("classes", 65, 64))
        self.assertRaises(OtherFactors, RoomCode, PageRules(8, 4, 2), 64, bits, three)
        RoomCode(PLAIN, 64, bits, three)
        asked = RoomText("ask", "class = bits len")
        self.assertRaises(TooMany, RoomCode, PLAIN, 65, BY, asked)
        RoomCode(PLAIN, 64, BY, asked)
        RoomCode(PLAIN, 65, BY, UP)

    def test_factors(self):
        def text(kind, *numbers):
            return RoomText(kind, "\n".join("a = size // " + str(number) + "\nquit" for number in numbers))
        for unit, one, two in [(1, (2, 3), ()), (1, (), (4, 6)), (1, (2,), (3,)), (2, (3,), ()), (3, (), (4,)),
                               (16, (24,), ()), (1, (2, 4), (6,))]:
            self.assertRaises(OtherFactors, RoomCode, PageRules(0, 1, unit), 5, text("class", *one), text("ask", *two))
        for unit, one, two in [(1, (2, 4), (8, 2)), (2, (4,), (2, 12)), (16, (4, 2), (32, 256)), (12, (3,), (6, 240))]:
            RoomCode(PageRules(0, 1, unit), 5, text("class", *one), text("ask", *two))

    def test_attributes_and_equal(self):
        code = RoomCode(PLAIN, 255, BY, UP)
        self.assertEqual((code.rules, code.top, code.classes, code.asks, code.fall, code.rise, code.when, code.waste),
                         (PLAIN, 255, BY, UP, 0, 0, "behind", 0))
        self.assertTrue(code == RoomCode(waste=0, when="behind", rise=0, fall=0, asks=UP, classes=BY, top=255,
                                         rules=PageRules(8, 4, 1)))
        for other in (RoomCode(PageRules(8, 4, 2), 255, BY, UP), RoomCode(PLAIN, 254, BY, UP),
                      RoomCode(PLAIN, 255, RoomText("class", ""), UP), RoomCode(PLAIN, 255, BY, RoomText("ask", "")),
                      RoomCode(PLAIN, 255, BY, UP, 1), RoomCode(PLAIN, 255, BY, UP, 0, 1),
                      RoomCode(PLAIN, 255, BY, UP, 0, 0, "ahead"), RoomCode(PLAIN, 255, BY, UP, waste=1), BY, None):
            self.assertFalse(code == other)


if __name__ == "__main__":
    unittest.main()
