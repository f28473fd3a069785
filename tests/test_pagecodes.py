"""[3], [9], [10], [11]: the texts of page codes."""

import unittest

from heldplaces.errors import BadKind, BadLine, Refused, TooMany
from heldplaces.pagecodes import PageCode
from samples import EIGHT, PACK, PLAIN, PUT, SHRINK, STRETCH, STRIKE, pack_code, put_code, set_code, strike_code

FORMS = """a = 1
b = size
c = head + slot - unit + 3
a = slots // 2
b = low - holes + edge - 1 // 6
c = room len
low = low + holes
holes = 0
slots = slots + 1
take next
take empty
own.at = low
own.len = len
pack
lay low
no
quit
if a < b
if a <= 3
if 3 is 4
if there is empty
if own is last
if not there is empty and not own is last
if a < b and not b <= a and 0 is c and own.at is low"""


def text_of(*lines):
    return "\n".join(lines)


class Base(unittest.TestCase):
    def line_of(self, error, text, kind="put"):
        with self.assertRaises(error) as caught:
            PageCode(kind, PLAIN, text)
        return caught.exception.line

    def bad(self, line, kind="put"):
        """A line that is no form, alone and as the second one."""
        closed = [line, "end"] if line.startswith("if") else [line]
        self.assertEqual(self.line_of(BadLine, text_of(*closed), kind), 1, line)
        self.assertEqual(self.line_of(BadLine, text_of("a = 1", *closed), kind), 2, line)

    def good(self, line, kind="put"):
        closed = [line, "end"] if line.startswith("if") else [line]
        return PageCode(kind, PLAIN, text_of(*closed))


class TestForms(Base):
    def test_right_lines(self):
        for line in FORMS.split("\n"):
            self.assertEqual(self.good(line)[1], line)
        for line in ("clear own", "slots = slots - 1", "a = room own.len", "own.at = own.at", "own.len = own.len"):
            self.good(line, "strike")

    def test_word_too_much_or_too_few(self):
        for line in FORMS.split("\n"):
            words = line.split(" ")
            self.bad(line + " x")
            self.bad("x " + line)
            if words[-1] not in ("b", "3", "c", "low", "last", "empty", "len", "1", "6") or len(words) < 3:
                continue
            self.bad(" ".join(words[:-1]))

    def test_doubled_or_other_order(self):
        for line in ("a = = 1", "a 1 =", "= a 1", "take take empty", "empty take", "next take", "own clear", "clear",
                     "clear own own", "pack pack", "no no", "quit quit", "lay", "lay lay low", "low lay", "take",
                     "take own", "a = room", "a = len room", "a = room len len", "a = room size", "a = room own.at",
                     "if", "if not", "if not not a < b", "if a < b and", "if and a < b", "if a < b and and b < c",
                     "if a b <", "if a < b < c", "if a > b", "if a >= b", "if a = b", "if there empty is",
                     "if there is", "if own last is", "if is own last", "if not", "if a not < b", "if a is not b",
                     "else a", "end end", "a", "a =", "= a", "a == 1", "A = 1", "No", "d = 1", "size = 1", "edge = 1",
                     "head = 1", "len = 1", "slots = 1", "slots = slots", "slots = slots + 2", "slots = slots + slot",
                     "slots = 1 + slots", "low = room len", "holes = low // 2", "own.at = low // 2", "own = 1"):
            self.bad(line)

    def test_sums(self):
        for terms in ("1", "a", "1 + 1 + 1 + 1", "a + b + c + low", "low - 3 - 3 - 3", "own.at + own.len"):
            self.good("b = " + terms, "put")
        for terms in ("", "+", "- 1", "+ a", "1 +", "a + + b", "a b", "1 + 1 + 1 + 1 + 1", "a + b + c + low + 1",
                      "a + a", "a - a", "low + 1 - low", "a + b + a", "a * b", "x", "own", "a + own", "len.own",
                      "1 + 2 // 3 // 2", "a // b", "a // 1", "a // 7", "a // 02", "a // 2 + 1", "a //", "// 2",
                      "a + // 2"):
            self.bad("b = " + terms)

    def test_numbers(self):
        self.good("a = " + "9" * 30)
        self.good("a = 0")
        self.good("if 0 < " + "1" * 30)
        for word in ("9" * 31, "00", "01", "-1", "+1", "1.0", "1_0", "0x1", "1e3"):
            self.bad("a = " + word)
            self.bad("a = 1 + " + word)
            self.bad("if a < " + word)
            self.bad("lay " + word)

    def test_bad_number_ahead_of_other_limits(self):
        self.assertEqual(self.line_of(BadLine, text_of("take empty", "take empty", "a = 07")), 3)

    def test_tests(self):
        part = "a < 1"
        self.good("if " + " and ".join([part]))
        self.good("if " + " and ".join([part] * 4))
        self.good("if not a < b and not b < a")
        self.bad("if " + " and ".join([part] * 5))
        for line in ("if a < a", "if a is a", "if 3 <= 3", "if not own.at is own.at", "if a < b + 1", "if a < x",
                     "if there is full", "if own is first", "if own is low", "if there is empty is"):
            self.bad(line)
        self.good("if 3 < 4")
        self.good("if len is own.len")

    def test_blanks_and_empty_lines(self):
        for text, line in [(" ", 1), ("a  = 1", 1), (" a = 1", 1), ("a = 1 ", 1), ("a = 1\n", 2), ("\na = 1", 1),
                           ("a = 1\n\nb = 1", 2), ("\n", 1), ("a = 1\n ", 2), ("if a < b\n\nend", 2),
                           ("if a  < b\nend", 1)]:
            self.assertEqual(self.line_of(BadLine, text), line, repr(text))


class TestBlocks(Base):
    def test_blocks(self):
        for text in ("if a < b\nend", "if a < b\nelse\nend", "if a < b\na = 1\nelse\nb = 1\nend",
                     "if a < b\nif b < c\nend\nelse\nif c < a\nelse\nend\nend\nno",
                     "if a < b\nif b < c\nif c < a\nend\nend\nend"):
            self.assertEqual(len(put_code(text)), text.count("\n") + 1)

    def test_wrong_blocks(self):
        for text, line in [("end", 1), ("else", 1), ("a = 1\nend", 2), ("if a < b\nend\nend", 3),
                           ("if a < b\nend\nelse", 3), ("if a < b\nelse\nelse\nend", 3),
                           ("if a < b\nelse\nif a < b\nend\nelse\nend", 5), ("if a < b", 2), ("if a < b\na = 1", 3),
                           ("if a < b\nelse", 3), ("if a < b\nif b < c\nend", 4), ("if a < b\nx\nelse\nelse", 2),
                           ("else\nx", 1), ("if x\nend\nend", 1)]:
            self.assertEqual(self.line_of(BadLine, text), line, text)

    def test_end_that_lacks_is_told_last(self):
        self.assertEqual(self.line_of(BadLine, "if a < b\nx"), 2)
        self.assertEqual(self.line_of(BadLine, "\n".join(["if a < b"] * 9)), 10)


class TestMany(Base):
    def many(self, text, kind="put"):
        with self.assertRaises(TooMany) as caught:
            PageCode(kind, PLAIN, text)
        return (caught.exception.what, caught.exception.many, caught.exception.most)

    def test_lines(self):
        self.assertEqual(len(put_code("\n".join(["low = 1"] * 40))), 40)
        self.assertEqual(self.many("\n".join(["low = 1"] * 41)), ("lines", 41, 40))
        self.assertEqual(self.many("\n" * 60), ("lines", 61, 40))
        self.assertEqual(len(put_code("")), 0)

    def test_ifs(self):
        self.assertEqual(len(put_code("\n".join(["if a < b\nend"] * 7))), 14)
        self.assertEqual(self.many("\n".join(["if a < b\nend"] * 8)), ("ifs", 8, 7))
        self.assertEqual(self.many("no\n" + "\n".join(["if a < b"] * 8 + ["end"] * 8)), ("ifs", 8, 7))

    def test_order_of_errors(self):
        lines = "\n".join(["x"] * 41)
        for kind in ("Put", "", None, True, 3, [], {}, ("put",), "give"):
            with self.assertRaises(BadKind) as caught:
                PageCode(kind, PLAIN, lines)
            self.assertEqual(caught.exception.kind, kind)
        self.assertEqual(self.many(lines), ("lines", 41, 40))
        ifs = "\n".join(["if a < b\nend"] * 8)
        self.assertEqual(self.line_of(BadLine, ifs + "\nx"), 17)
        self.assertEqual(self.many("take empty\ntake next\n" + ifs), ("ifs", 8, 7))
        self.assertEqual(self.line_of(Refused, "take empty\ntake next"), 2)
        self.assertEqual(self.line_of(BadLine, "take empty\ntake next\nend"), 3)


class TestKindsOfWords(Base):
    WORDS = [
        ("take empty", ("put",)), ("take next", ("put",)), ("if there is empty\nend", ("put",)),
        ("if not there is empty\nend", ("put",)), ("slots = slots + 1", ("put",)), ("slots = slots - 1", ("strike",)),
        ("clear own", ("strike", "set")), ("a = room own.len", ("strike", "set")), ("no", ("put", "set")),
        ("lay low", ("put", "set")), ("a = len", ("put", "set")), ("low = 1 + len", ("put", "set")),
        ("if len < a\nend", ("put", "set")), ("a = room len", ("put", "set")), ("a = len // 2", ("put", "set")),
        ("own.at = 1", ("put", "strike", "set")), ("own.len = 1", ("put", "strike", "set")),
        ("a = own.at", ("put", "strike", "set")), ("a = own.len // 2", ("put", "strike", "set")),
        ("if own is last\nend", ("put", "strike", "set")), ("if 1 < own.len\nend", ("put", "strike", "set")),
        ("a = slots", ("put", "strike", "set", "pack")), ("pack", ("put", "strike", "set", "pack")),
        ("quit", ("put", "strike", "set", "pack")), ("low = holes", ("put", "strike", "set", "pack")),
        ("lay len", ("put", "set")), ("own.len = len", ("put", "set")), ("lay own.at", ("put", "set")),
    ]

    def test_words(self):
        for text, kinds in self.WORDS:
            for kind in ("put", "strike", "set", "pack"):
                for ahead, line in (("", 1), ("quit\n", 2), ("a = 1\nif a < 0\nquit\nb = 1\n", 5)):
                    whole = ahead + text + ("\nend" if "if a < 0" in ahead else "")
                    if kind in kinds:
                        PageCode(kind, PLAIN, whole)
                    else:
                        self.assertEqual(self.line_of(Refused, whole, kind), line, (kind, whole))


class TestWays(Base):
    def test_registers(self):
        for name in ("a", "b", "c"):
            thrice = [name + " = 1", name + " = room len", name + " = low // 2"]
            PageCode("put", PLAIN, text_of(*thrice))
            self.assertEqual(self.line_of(Refused, text_of(*thrice, "pack", name + " = 2")), 5)
        PageCode("put", PLAIN, text_of(*["low = 1", "holes = 2"] * 20))

    def test_divisions(self):
        PageCode("put", PLAIN, "a = low // 2\nb = low // 3")
        self.assertEqual(self.line_of(Refused, "a = low // 2\nb = low // 3\nc = 1\nc = a // 2"), 4)

    def test_once(self):
        for kind, line, other in [
                ("put", "take empty", "take next"), ("put", "take next", "take next"), ("set", "clear own", "clear own"),
                ("pack", "pack", "pack"), ("set", "own.at = 1", "own.at = low"), ("set", "own.len = 1", "own.len = len"),
                ("put", "lay 1", "lay low"), ("put", "slots = slots + 1", "slots = slots + 1"),
                ("strike", "slots = slots - 1", "slots = slots - 1")]:
            PageCode(kind, PLAIN, line)
            self.assertEqual(self.line_of(Refused, text_of(line, "a = 1", other), kind), 3)
            split = text_of("if 0 < 1", line, "else", other, "end")
            PageCode(kind, PLAIN, split)
            self.assertEqual(self.line_of(Refused, text_of(split, line), kind), 6)

    def test_behind(self):
        for ahead in ("own.at = 1", "own.len = 1", "slots = slots + 1", "lay 1"):
            self.assertEqual(self.line_of(Refused, text_of(ahead, "pack")), 2)
            for line in ("take empty", "take next", "if there is empty", "if 0 < 1 and not there is empty"):
                text = text_of(ahead, line, "end") if line.startswith("if") else text_of(ahead, line)
                if ahead == "lay 1":
                    PageCode("put", PLAIN, text)
                else:
                    self.assertEqual(self.line_of(Refused, text), 2)
        for ahead in ("take empty", "low = 1", "holes = 1", "a = room len"):
            PageCode("put", PLAIN, text_of(ahead, "pack"))
        PageCode("set", PLAIN, "clear own\npack")
        PageCode("put", PLAIN, "pack\ntake empty\nif there is empty\nend\nown.at = 1\nif 0 < 1\nend")

    def test_lines_on_no_way(self):
        for word in ("no", "quit"):
            PageCode("put", PLAIN, text_of(word, "take empty", "take empty"))
            PageCode("put", PLAIN, text_of("take empty", "if 0 < 1", word, "take empty", "else", word, "end", "take next"))
        self.assertEqual(self.line_of(Refused, text_of("take empty", "if 0 < 1", "no", "else", "end", "take next")), 6)

    def test_both_ways(self):
        self.assertEqual(self.line_of(Refused, text_of("a = 1", "a = 1", "if a < b", "a = 1", "end", "a = 2")), 6)
        PageCode("put", PLAIN, text_of("a = 1", "a = 1", "if a < b", "a = 1", "quit", "end", "a = 2"))
        seven = text_of(*["if a < b\nelse\nend"] * 6)
        self.assertEqual(self.line_of(Refused, text_of("lay 1", seven, "if b < a", "lay 2", "end")), 21)

    def test_least_line_is_told(self):
        text = text_of("take empty", "if a < b", "own.at = 1", "take next", "else", "take empty", "end", "clear own")
        self.assertEqual(self.line_of(Refused, text), 4)
        self.assertEqual(self.line_of(Refused, text_of("lay 1", "lay 1", "clear own")), 2)
        self.assertEqual(self.line_of(Refused, text_of("clear own", "lay 1", "lay 1")), 1)


class TestAttributes(Base):
    def test_example(self):
        strike = strike_code()
        put = put_code()
        self.assertEqual([len(put), put[11], len(strike)], [24, "pack", 3])

    def test_attributes(self):
        for kind, text, made in [("put", PUT, put_code()), ("strike", STRIKE, strike_code()),
                                 ("set", STRETCH, set_code()), ("pack", PACK, pack_code())]:
            self.assertEqual((made.kind, made.text, made.rules), (kind, text, PLAIN))
            self.assertEqual([made[k] for k in range(1, len(made) + 1)], text.split("\n"))
            self.assertTrue(made == PageCode(text=text, kind=kind, rules=PLAIN))
        with self.assertRaises(TypeError):
            iter(put_code())

    def test_equal(self):
        one = strike_code()
        for other in (strike_code(SHRINK), PageCode("set", PLAIN, STRIKE), strike_code(STRIKE, EIGHT), STRIKE, None, 3):
            self.assertFalse(one == other)
        self.assertTrue(put_code("") == put_code(""))


if __name__ == "__main__":
    unittest.main()
