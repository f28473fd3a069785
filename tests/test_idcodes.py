"""[18] to [21]: the texts of id codes."""

import unittest

from heldplaces.errors import BadKind, BadLine, Refused, TooMany
from heldplaces.idcodes import IdCode
from samples import GIVE, LOOK, free_code, give_code, look_code

KINDS = ("give", "free", "look")


class Base(unittest.TestCase):
    def line_of(self, error, kind, text):
        with self.assertRaises(error) as caught:
            IdCode(kind, text)
        return caught.exception.line

    def check(self, line, kinds):
        """A line that is a form for some kinds, and none for the other ones."""
        closed = line + "\nend" if line.startswith("if") else line
        for kind in KINDS:
            if kind in kinds:
                self.assertEqual(IdCode(kind, closed)[1], line)
                self.assertEqual(self.line_of(BadLine, kind, closed + "\n"), closed.count("\n") + 2)
            else:
                self.assertEqual(self.line_of(BadLine, kind, closed), 1, (kind, line))
                self.assertEqual(self.line_of(BadLine, kind, "a = 1\n" + closed), 2, (kind, line))


class TestForms(Base):
    def test_reckonings(self):
        for tail in ("1", "page", "slot + stamp", "a - b - c - 4", "page * 2", "page // 3", "a mod 2", "a + 4 << 1",
                     "a >> 90", "a & 1", "a & " + str(2 ** 90 - 1), "b * " + "9" * 30, "1 + 2 + 3 + 4 mod 7"):
            for name in ("a", "b", "c"):
                self.check(name + " = " + tail, KINDS)
            self.check("word = " + tail, ("give",))
            if "stamp" not in tail:
                self.check("page = " + tail, ("look",))
                self.check("slot = " + tail, ("look",))

    def test_word(self):
        self.check("a = word", ("give", "look"))
        self.check("a = word + 1 >> 4", ("give", "look"))
        self.check("word = word * 2 + 1", ())
        self.check("word = word + 1 * 2", ("give",))

    def test_wrong_numbers(self):
        for tail in ("a * 0", "a * 1", "a // 1", "a // 0", "a mod 1", "a << 0", "a << 91", "a >> 0", "a >> 91", "a & 0",
                     "a & 2", "a & 4", "a & 6", "a & " + str(2 ** 91 - 1), "a * " + "9" * 31, "a * 02", "a & 03",
                     "a * b", "a << b", "a & b", "2 * a", "a *", "* 2", "a * 2 * 2", "a mod", "a + 1 + 2 + 3 + 4 * 2",
                     "a + a", "a + a * 2", "a ** 2", "a + - 1", "", "d", "own.at", "a % 2"):
            self.check("b = " + tail, ())

    def test_stamps(self):
        for tail in ("stamp + 1", "stamp + 12", "0", "9" * 30, "stamp mod 2", "stamp & 1", "stamp mod " + "9" * 30):
            self.check("stamp = " + tail, ("give", "free"))
        for tail in ("stamp + 0", "stamp + 13", "stamp - 1", "1 + stamp", "stamp", "9" * 31, "stamp + a", "page",
                     "stamp mod 1", "stamp mod 0", "stamp & 2", "stamp & 0", "stamp * 2", "stamp >> 1", "stamp + 01",
                     "stamp + 1 + 1", "stamp + 1 mod 2", "a mod 2", "- 1", "1 + 1", ""):
            self.check("stamp = " + tail, ())

    def test_words_of_kinds(self):
        self.check("quit", ("give", "free"))
        self.check("retire", ("free",))
        self.check("accept", ("look",))
        self.check("refuse", ("look",))
        for line in ("no", "accept it", "quit quit", "Quit", " ", "a  = 1", "a = 1 ", "lent", "if", "a", "= 1", "a 1"):
            self.check(line, ())

    def test_tests_of_give_and_free(self):
        for part in ("page < 1", "1 < page", "slot <= 3", "3 is stamp", "not stamp is 4", "stamp < 1 and not page is 2"):
            self.check("if " + part, KINDS)
        for part in ("page < slot", "stamp is page", "a < 1", "1 is b", "a is stamp"):
            self.check("if " + part, ("look",))
        self.check("if 1 < 2", ("look",))
        self.check("if word is 3", ("look",))
        self.check("if stamp < 1 and a < 2", ("look",))
        self.check("if lent", ("look",))
        self.check("if not lent and a is stamp and lent", ("look",))
        for part in ("page < page", "1 < 1", "a < 1 and", "not", "lent lent", "page < 1 + 1", "stamp > 1", "not not lent",
                     " and ".join(["page < 1"] * 5), "there is empty", "own is last"):
            self.check("if " + part, ())
        self.check("if " + " and ".join(["page < 1"] * 4), KINDS)

    def test_blocks(self):
        for kind in KINDS:
            for text, line in [("end", 1), ("else", 1), ("if page < 1", 2), ("if page < 1\nelse\nelse\nend", 3),
                               ("if page < 1\nend\nend", 3), ("if page < 1\nx\nend", 2), ("a = 1\n", 2), ("\n", 1)]:
                self.assertEqual(self.line_of(BadLine, kind, text), line)
            self.assertEqual(len(IdCode(kind, "if page < 1\nif slot < 1\nelse\nend\nelse\nend")), 6)


class TestLimits(Base):
    def many(self, kind, text):
        with self.assertRaises(TooMany) as caught:
            IdCode(kind, text)
        return (caught.exception.what, caught.exception.many, caught.exception.most)

    def test_lines_and_ifs(self):
        for kind in KINDS:
            self.assertEqual(len(IdCode(kind, "\n".join(["a = 1"] * 30))), 30)
            self.assertEqual(self.many(kind, "\n".join(["x"] * 31)), ("lines", 31, 30))
            self.assertEqual(len(IdCode(kind, "\n".join(["if page < 1\nend"] * 5))), 10)
            self.assertEqual(self.many(kind, "\n".join(["if page < 1\nend"] * 6)), ("ifs", 6, 5))
            self.assertEqual(len(IdCode(kind, "")), 0)

    def test_kinds(self):
        for kind in ("put", "", None, True, 3, ["give"], {}, ("give",)):
            with self.assertRaises(BadKind) as caught:
                IdCode(kind, "\n" * 40)
            self.assertIs(caught.exception.kind, kind)

    def test_signs(self):
        signs = ["a = a * 2", "b = a // 2", "c = a mod 2", "a = a << 1", "a = a >> 1", "b = a & 1"]
        for kind in KINDS:
            IdCode(kind, "\n".join(signs[:5] + ["a = 1"] * 4))
            self.assertEqual(self.line_of(Refused, kind, "\n".join(["a = 1"] + signs)), 7)
            split = "if page < 1\n" + "\n".join(signs[:3]) + "\nelse\n" + "\n".join(signs[3:]) + "\nend\n"
            IdCode(kind, split + "a = a * 2\na = a * 2")
            self.assertEqual(self.line_of(Refused, kind, split + "a = a * 2\na = a * 2\na = a * 2"), 12)

    def test_stamps(self):
        lines = ["stamp = stamp + 1", "stamp = 4", "stamp = stamp mod 4", "stamp = stamp & 3"]
        for kind in ("give", "free"):
            IdCode(kind, "\n".join(lines[:3]))
            self.assertEqual(self.line_of(Refused, kind, "\n".join(lines)), 4)
            IdCode(kind, "\n".join(lines[:3] + ["quit", lines[3]]))
            self.assertEqual(self.line_of(Refused, kind, "if page < 1\nquit\nend\n" + "\n".join(lines)), 7)
            IdCode(kind, "\n".join(["a = a mod 4"] * 5 + lines[:3]))

    def test_place_set_too_late(self):
        for ahead in ("a = stamp", "b = 1 + stamp * 2", "if lent\nend", "if a is stamp\nend", "if 1 < 2 and not lent\nend"):
            for line in ("page = 1", "slot = a // 2"):
                self.assertEqual(self.line_of(Refused, "look", ahead + "\n" + line), ahead.count("\n") + 2)
                IdCode("look", line + "\n" + ahead)
        self.assertEqual(self.line_of(Refused, "look", "page = stamp"), 1)
        self.assertEqual(self.line_of(Refused, "look", "slot = 1 + stamp mod 2"), 1)
        IdCode("look", "if 1 < 2\na = stamp\nelse\npage = 1\nend")
        self.assertEqual(self.line_of(Refused, "look", "if 1 < 2\na = stamp\nend\npage = 1"), 4)
        self.assertEqual(self.line_of(Refused, "look", "if lent\npage = 1\nend"), 2)
        IdCode("look", "if 1 < 2\naccept\nend\npage = 1")
        IdCode("look", "a = stamp\nrefuse\npage = 1")

    def test_factors(self):
        for kind in KINDS:
            IdCode(kind, "a = a * 2\na = a << 3\na = a mod 16\na = a & 31\nb = a // 96")
            self.assertEqual(self.line_of(Refused, kind, "a = a * 4\nb = 1\na = a mod 6"), 3)
            self.assertEqual(self.line_of(Refused, kind, "a = a * 10\na = a >> 1\na = a // 5\na = a * 7"), 3)
            self.assertEqual(self.line_of(Refused, kind, "if page < 1\na = a * 3\nend\na = a & 3"), 4)
        self.assertEqual(self.line_of(Refused, "give", "quit\nstamp = stamp mod 3\nstamp = stamp & 1"), 3)
        self.assertEqual(self.line_of(Refused, "free", "a = a * 3\nstamp = stamp & 1"), 2)
        self.assertEqual(self.line_of(Refused, "look", "refuse\na = a * 3\na = a >> 1"), 3)
        IdCode("give", "stamp = 7\nstamp = stamp + 5\na = a * 2")

    def test_least_line(self):
        self.assertEqual(self.line_of(Refused, "give", "stamp = 1\nstamp = 1\na = a * 2\na = a * 3\nstamp = 1\nstamp = 1"), 4)
        self.assertEqual(self.line_of(Refused, "give", "stamp = 1\nstamp = 1\nstamp = 1\nstamp = 1\na = a * 2\na = a * 3"), 4)
        self.assertEqual(self.line_of(BadLine, "give", "a = a * 2\na = a * 3\naccept"), 3)


class TestAttributes(Base):
    def test_example(self):
        self.assertEqual([len(give_code()), look_code()[5], free_code() == IdCode("free", "")],
                         [6, "if lent and a is stamp", True])

    def test_attributes(self):
        for kind, text in (("give", GIVE), ("free", ""), ("look", LOOK)):
            made = IdCode(text=text, kind=kind)
            self.assertEqual((made.kind, made.text), (kind, text))
            self.assertEqual("\n".join([made[k] for k in range(1, len(made) + 1)]), text)
        with self.assertRaises(TypeError):
            iter(give_code())

    def test_equal(self):
        self.assertTrue(give_code() == give_code())
        for other in (give_code("a = 1"), free_code(), IdCode("look", ""), None, "", 3):
            self.assertFalse(give_code() == other)
        self.assertFalse(IdCode("give", "") == IdCode("free", ""))


if __name__ == "__main__":
    unittest.main()
