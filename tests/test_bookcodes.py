"""[3], [44], [45]: the forms and the limits of book codes."""

import unittest

from heldplaces.bookcodes import BookCode
from heldplaces.bookrules import BookRules
from heldplaces.errors import BadKind, BadLine, Refused, TooMany
from samples import BOOK, FORGETS_ONE, LESS, NOTE, UNTIL, WHOLE, book_code

KINDS = ("note", "fail", "undo", "redo")
NAMES = ("size", "keep", "next", "many", "more", "own", "mark", "a", "b", "c")
SETTABLE = ("next", "many", "more", "own", "mark", "a", "b", "c")
PLACES = ("a", "b", "c", "next", "mark")


def lines(*rows):
    return "\n".join(rows)


class TestCase(unittest.TestCase):
    def bad_line(self, text, line=1, kind="note"):
        with self.assertRaises(BadLine) as caught:
            BookCode(kind, WHOLE, text)
        self.assertEqual(caught.exception.line, line, text)

    def refused(self, kind, text, line):
        with self.assertRaises(Refused) as caught:
            BookCode(kind, WHOLE, text)
        self.assertEqual(caught.exception.line, line, (kind, text))


class TestForms(TestCase):
    def test_example(self):
        self.assertEqual([len(book_code("note")), book_code("note")[12], len(book_code("note", FORGETS_ONE)),
                          len(book_code("fail", UNTIL))],
                         [16, "write next", 14, 3])

    def test_settings(self):
        for name in SETTABLE:
            for text in ("0", "size", "next + 1", "size - keep + next - 30", "a", "9" * 30, "mark - own + more - many", "c + b - a"):
                BookCode("fail", WHOLE, name + " = " + text)
                BookCode("redo", WHOLE, name + " = wrap " + text)
        for text in ("size = 1", "keep = 1", "d = 1", "a = a + a", "a = 1 + 2 + 3 + 4 + 5", "a = ", "a =", "a", "a = wrap",
                     "a = wrap ", "a == 1", "a = len", "a = low", "a = slots", "a = 01", "a = " + "1" * 31, "a  = 1", " a = 1",
                     "a = 1 ", "a = - 1", "a = -1", "a = wrap wrap 1", "a = wrap size + size", "a = 1 // 2", "a = 1 * 2", "a = bits 1",
                     "wrap = 1", "a = wrap 1 times", "a = next wrap 1", "A = 1", "a = full", "a = page", "next", "= 1", "a b = 1",
                     "a + = 1", "a = place"):
            self.bad_line(text)

    def test_every_name(self):
        for name in NAMES:
            BookCode("note", WHOLE, "a = " + name + " + 1\nb = wrap 3 - " + name)
            BookCode("note", WHOLE, "if " + name + " < 3\nend")

    def test_sealed(self):
        for place in PLACES:
            for name in ("a", "b", "c"):
                self.assertEqual(len(BookCode("undo", WHOLE, name + " = sealed " + place)), 1)
        for text in ("many = sealed a", "next = sealed a", "mark = sealed next", "a = sealed", "a = sealed many", "a = sealed own",
                     "a = sealed more", "a = sealed size", "a = sealed keep", "a = sealed 3", "a = sealed next + 1", "a = sealed a b",
                     "sealed a", "a = wrap sealed a", "a = sealed sealed a", "size = sealed a"):
            for kind in KINDS:
                self.bad_line(text, 1, kind)

    def test_write(self):
        for place in PLACES:
            self.assertEqual(BookCode("note", WHOLE, "write " + place)[1], "write " + place)
        for text in ("write", "write many", "write own", "write more", "write size", "write 0", "write next + 1", "write a b",
                     "write write", "a = write next", "write  next"):
            for kind in KINDS:
                self.bad_line(text, 1, kind)

    def test_moves(self):
        for word, kind in (("back", "undo"), ("back", "fail"), ("again", "redo")):
            for place in PLACES:
                BookCode(kind, WHOLE, word + " until " + place)
            for some in ("0", "own", "size", "a + b - 1 + next", "size - keep", "many - own"):
                BookCode(kind, WHOLE, word + " " + some + " times")
            for text in ("", " 3", " times", " until", " a", " until many", " until 3", " until own", " until next + 1", " until a times",
                         " own time", " times own", " own times times", " a + a times", " 1 + 2 + 3 + 4 + 5 times", " 01 times",
                         " until a b", "  own times", " own  times", " wrap own times", " sealed a times"):
                for any_kind in KINDS:
                    self.bad_line(word + text, 1, any_kind)
            self.bad_line("a = " + word + " own times", 1, kind)

    def test_ifs(self):
        for test in ("a < b", "next <= mark", "own is keep", "not many is keep", "a < 1 and b < 2 and c < 3 and size < 4", "3 is 4",
                     "not 0 < next"):
            BookCode("note", WHOLE, lines("if " + test, "a = 1", "else", "a = 2", "end"))
        for test in ("", "a", "a is", "a is a", "a > b", "a = b", "a is b + 1", "not", "not not a is b", "a is b and", "and a is b",
                     "a < 1 and a < 2 and a < 3 and a < 4 and a < 5", "there is empty", "own is last", "lent", "a is d", "a is len"):
            self.bad_line(lines("if " + test, "end"))

    def test_blocks(self):
        self.bad_line("end")
        self.bad_line("else")
        self.bad_line("if a < b", 2)
        self.bad_line(lines("if a < b", "else", "else", "end"), 3)
        self.bad_line(lines("if a < b", "if a < c", "end", "a = 1"), 5)
        self.bad_line(lines("a = 1", "", "b = 1"), 2)
        self.bad_line("a = 1\n", 2)
        for text in ("no no", "quit ok", "no quit", "else if", "end end", "quit no", "accept", "refuse", "look", "take next", "pack",
                     "lay next", "retire", "leave", "clear own"):
            self.bad_line(text)
        code = BookCode("fail", WHOLE, lines("if a < b", "if a < c", "else", "end", "else", "if b < c", "end", "end", "quit", "no"))
        self.assertEqual((len(code), code[9], code[10]), (10, "quit", "no"))
        self.assertEqual(len(BookCode("fail", WHOLE, "")), 0)


class TestLimits(TestCase):
    def test_kinds_of_words(self):
        for text, kinds in [("write next", ("note",)), ("a = sealed next", ("note", "undo", "redo")), ("back own times", ("fail", "undo")),
                            ("back until mark", ("fail", "undo")), ("again own times", ("redo",)), ("again until a", ("redo",)),
                            ("no", KINDS), ("quit", KINDS), ("a = wrap next", KINDS), ("mark = next", KINDS)]:
            for kind in KINDS:
                if kind in kinds:
                    BookCode(kind, WHOLE, lines("a = 1", "quit", text))
                else:
                    self.refused(kind, text, 1)
                    self.refused(kind, lines("a = 1", "quit", text), 3)
                    self.refused(kind, lines("if a < b", "no", text, "end"), 3)

    def test_settings(self):
        for name in SETTABLE:
            twice = [name + " = 1", name + " = wrap 2"]
            self.assertEqual(len(BookCode("redo", WHOLE, lines(*twice))), 2)
            self.refused("redo", lines(*twice, name + " = 0"), 3)
            self.refused("redo", lines(*twice, name + " = wrap 0"), 3)
            BookCode("redo", WHOLE, lines("if a < b", *twice, "else", *twice, "end"))
            BookCode("redo", WHOLE, lines(*twice, "quit", name + " = 3"))
            self.refused("redo", lines("if a < b", *twice, "end", name + " = 3"), 5)
        for name in "abc":
            self.refused("note", lines(name + " = 1", name + " = 2", name + " = sealed next"), 3)
            self.refused("note", lines(name + " = sealed next", name + " = 2", name + " = 2"), 3)
            BookCode("note", WHOLE, lines(name + " = sealed next", name + " = 2"))
        # Going back sets next, but not by " = ".
        BookCode("fail", WHOLE, lines("next = 1", "back own times", "next = 2"))

    def test_what_stands_once(self):
        for kind, one, other in [("note", "a = sealed next", "b = sealed mark"), ("note", "write next", "write a"),
                                 ("undo", "back own times", "back until a"), ("redo", "again 1 times", "again until b")]:
            BookCode(kind, WHOLE, lines("if a < b", one, "else", other, "end"))
            BookCode(kind, WHOLE, lines(one, "quit", other))
            self.refused(kind, lines(one, other), 2)
            self.refused(kind, lines("if a < b", one, "end", "a = 1", other), 5)
            self.refused(kind, lines(one, "no", "if a < b", other, "end", one, other).replace("no\n", ""), 3)
        BookCode("note", WHOLE, lines("a = sealed next", "write next"))
        BookCode("undo", WHOLE, lines("a = sealed next", "back a times"))

    def test_least_line(self):
        self.refused("fail", lines("a = 1", "a = 1", "a = 1", "write next"), 3)
        self.refused("fail", lines("a = 1", "write next", "a = 1", "a = 1"), 2)
        self.refused("fail", lines("if a < b", "a = 1", "a = 1", "else", "b = 1", "b = 1", "end", "b = 2", "a = 3"), 8)

    def test_many_lines(self):
        most = ["if a < 1", "end"] * 6 + ["quit"] * 18
        self.assertEqual(len(BookCode("note", WHOLE, lines(*most))), 30)
        for rows in (most + ["quit"], ["nonsense"] * 31, ["write next"] * 31):
            with self.assertRaises(TooMany) as caught:
                BookCode("fail", WHOLE, lines(*rows))
            told = caught.exception
            self.assertEqual((told.what, told.many, told.most), ("lines", 31, 30))

    def test_many_ifs(self):
        with self.assertRaises(TooMany) as caught:
            BookCode("fail", WHOLE, lines(*["if a < 1", "end"] * 7, "write next"))
        told = caught.exception
        self.assertEqual((told.what, told.many, told.most), ("ifs", 7, 6))

    def test_order_of_errors(self):
        for kind in ("put", "Note", "", None, True, 3, ["note"], ("note",), {}):
            with self.assertRaises(BadKind) as caught:
                BookCode(kind, WHOLE, "\n".join(["nonsense"] * 40))
            self.assertIs(caught.exception.kind, kind)
        seven = ["if a < 1", "end"] * 7
        self.assertRaises(TooMany, BookCode, "note", WHOLE, lines(*["x"] * 31))
        self.bad_line(lines("again own times", *seven, "x"), 16)
        self.assertRaises(TooMany, BookCode, "note", WHOLE, lines("again own times", *seven))


class TestAttributes(unittest.TestCase):
    def test_attributes(self):
        for kind, text in BOOK.items():
            code = BookCode(kind=kind, rules=LESS, text=text)
            self.assertEqual((code.kind, code.text, len(code)), (kind, text, text.count("\n") + 1))
            self.assertTrue(code.rules == LESS)
            self.assertEqual([code[k] for k in range(1, len(code) + 1)], text.split("\n"))

    def test_equal(self):
        self.assertTrue(book_code("note") == BookCode("note", BookRules("size"), NOTE))
        for other in (book_code("note", rules=LESS), book_code("note", FORGETS_ONE), NOTE, None, book_code("fail")):
            self.assertFalse(book_code("note") == other)
        self.assertFalse(BookCode("note", WHOLE, "") == BookCode("fail", WHOLE, ""))


if __name__ == "__main__":
    unittest.main()
