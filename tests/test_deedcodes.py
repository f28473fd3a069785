"""[33] to [35]: the texts of deeds."""

import unittest

from heldplaces.deedcodes import DeedCode
from heldplaces.errors import BadKind, BadLine, Refused, TooMany
from samples import CHANGE, ENTER, LEAVE

KINDS = ("enter", "leave", "change")
OUTCOMES = {"find h": ("there", "none"), "look h p": ("held", "stale"), "lay p": ("laid", "full"), "give h p": ("given", "out"),
            "free p": ("freed", "unlent"), "strike p": ("struck", "bare"), "stretch p": ("stretched", "full", "bare")}


class Base(unittest.TestCase):
    def line_of(self, error, text, kind="change"):
        with self.assertRaises(error) as caught:
            DeedCode(kind, text)
        return caught.exception.line

    def many_of(self, text, kind="change"):
        with self.assertRaises(TooMany) as caught:
            DeedCode(kind, text)
        return caught.exception.what, caught.exception.many, caught.exception.most


class TestForms(Base):
    def test_steps(self):
        right = ["find h", "find i", "look h p", "look i p", "look h q", "look i q", "lay p", "lay q", "give h p", "give i q",
                 "give h q", "free p", "free q", "strike p", "strike q", "stretch p", "stretch q", "enter h", "enter i", "leave",
                 "h = i", "i = h", "p = q", "q = p", "quit ok", "quit no"]
        for line in right:
            self.assertEqual(DeedCode("change", line)[1], line)
            self.assertEqual(DeedCode("enter", "leave\n" + line)[2], line)
            if not line.startswith("lay") and not line.startswith("stretch"):
                self.assertEqual(len(DeedCode("leave", line + "\n" + "leave")), 2)

    def test_wrong_lines(self):
        for line in ["find", "find p", "find h i", "find h h", "look h", "look p h", "look h i", "look p", "look h p q", "lay",
                     "lay h", "lay p p", "lay p q", "give p h", "give h", "give p", "give h p p", "free", "free h", "free p q",
                     "strike", "strike i", "strike p p", "stretch h", "stretch", "enter", "enter p", "enter h h", "leave h",
                     "leave leave", "h = h", "h = p", "p = h", "q = q", "h = ", "h =", "= h", "h = i i", "a = 1", "quit", "quit ok ok",
                     "quit yes", "no", "ok", "end end", "on", "else", "if h", "Find h", "find  h", " find h", "find h ", "", " ",
                     "retire", "take h", "h is i", "find j", "look h r"]:
            if line != "":
                self.assertEqual(self.line_of(BadLine, line), 1, line)
            self.assertEqual(self.line_of(BadLine, "leave\n" + line), 2, line)
            self.assertEqual(self.line_of(BadLine, line + "\nleave"), 1, line)

    def test_without_signs(self):
        for kind in KINDS:
            code = DeedCode(kind, "")
            self.assertEqual((len(code), code.text, code.kind), (0, "", kind))

    def test_line_feeds(self):
        self.assertEqual(self.line_of(BadLine, "leave\n"), 2)
        self.assertEqual(self.line_of(BadLine, "leave\n\nleave"), 2)
        self.assertEqual(self.line_of(BadLine, "\nleave"), 1)

    def test_kinds(self):
        for kind in ("Enter", "put", "", None, 1, True, ["enter"], ("leave",), {}):
            with self.assertRaises(BadKind) as caught:
                DeedCode(kind, "\n".join(["no such line"] * 50))
            self.assertIs(caught.exception.kind, kind)

    def test_examples(self):
        self.assertEqual([len(DeedCode("enter", ENTER)), DeedCode("leave", LEAVE)[9], len(DeedCode("change", CHANGE))],
                         [10, "strike p", 15])

    def test_equal(self):
        code = DeedCode(text="leave", kind="leave")
        self.assertTrue(code == DeedCode("leave", "leave"))
        for other in (DeedCode("enter", "leave"), DeedCode("leave", "quit ok"), None, "leave", ("leave", "leave")):
            self.assertFalse(code == other)


class TestBlocks(Base):
    def test_outcomes(self):
        words = sorted({word for told in OUTCOMES.values() for word in told})
        for step, told in OUTCOMES.items():
            for word in words + ["ok", "on", "Full", "end"]:
                text = step + "\non " + word + "\nend"
                if word in told:
                    self.assertEqual(len(DeedCode("change", text)), 3)
                else:
                    self.assertEqual(self.line_of(BadLine, text), 2, text)
            rows = [step]
            for word in told:
                rows += ["on " + word, "leave", "end"]
            self.assertEqual(len(DeedCode("change", "\n".join(rows))), 1 + 3 * len(told))
            self.assertEqual(self.line_of(BadLine, "\n".join(rows + ["on " + told[0], "end"])), len(rows) + 1)

    def test_places(self):
        for text, line in [
                ("on none\nend", 1), ("leave\non none\nend", 2), ("find h\nleave\non none\nend", 3), ("enter h\non there\nend", 2),
                ("find h\non none\non there\nend\nend", 3), ("find h\non none\nleave\non there\nend\nend", 4),
                ("find h\non none\nend\nend", 4), ("end", 1), ("leave\nend", 2), ("find h\nend", 2),
                ("find h\non none", 3), ("find h\non none\nleave", 4), ("find h\non none\nfind i\non none\nend", 6),
                ("find h\non none x\nend", 2), ("find h\non\nend", 2), ("find h\non none\nend\nquit ok\non there\nend", 5),
                ("find h\non none\nfind i\nend\non none\nend", 5), ("find h\non none\nend\nh = i\non there\nend", 5),
                ("find h\non none\nend\non none\nend", 4), ("find h\nx\non none", 2), ("find h\non none\nx", 3)]:
            self.assertEqual(self.line_of(BadLine, text), line, text)

    def test_right_blocks(self):
        for text in ["find h\non none\nend\non there\nend", "find h\non there\nfind i\non none\nend\non there\nend\nend\non none\nend",
                     "find h\non there\nfind i\nend\non none\nquit no\nend\nleave", "find h\non none\nquit no\nleave\nend"]:
            self.assertEqual(len(DeedCode("enter", text)), text.count("\n") + 1)


class TestLimits(Base):
    def test_lines(self):
        self.assertEqual(len(DeedCode("leave", "\n".join(["leave"] * 40))), 40)
        self.assertEqual(self.many_of("\n".join(["no such line"] * 41)), ("lines", 41, 40))

    def test_steps(self):
        eight = ["find h", "look h p", "free p", "strike p", "find h", "find h", "find h", "find i"]
        self.assertEqual(len(DeedCode("change", "\n".join(eight + ["enter h", "leave"]))), 10)
        self.assertEqual(self.many_of("\n".join(eight + ["find i"])), ("steps", 9, 8))
        self.assertEqual(self.many_of("quit ok\n" + "\n".join(["lay p"] * 9)), ("steps", 9, 8))
        self.assertEqual(self.line_of(BadLine, "\n".join(["lay p"] * 9 + ["x"])), 10)
        self.assertEqual(self.many_of("\n".join(["lay p"] * 9), "leave"), ("steps", 9, 8))

    def test_second_ones(self):
        for step in ("lay p", "stretch p", "give h p"):
            word = OUTCOMES[step][1]
            self.assertEqual(self.line_of(Refused, step + "\n" + step), 2)
            self.assertEqual(self.line_of(Refused, step + "\nleave\nfind h\n" + step), 4)
            self.assertEqual(self.line_of(Refused, step + "\non " + word + "\n" + step + "\nend"), 3)
            self.assertEqual(self.line_of(Refused, step + "\non " + word + "\nquit no\nend\n" + step), 5)
            self.assertEqual(self.line_of(Refused, "find h\non none\n" + step + "\nend\n" + step), 5)
            ends = "".join("\non " + one + "\nquit no\nend" for one in OUTCOMES[step])
            DeedCode("change", step + ends + "\n" + step)
            DeedCode("change", "find h\non none\n" + step + "\nend\non there\n" + step + "\nend")
            DeedCode("change", "find h\non none\n" + step + "\nquit ok\nend\n" + step)
            DeedCode("change", step + "\nquit ok\n" + step)
        DeedCode("change", "lay p\nstretch p\ngive h p")
        self.assertEqual(self.line_of(Refused, "lay p\nstretch p\ngive h p\nlay p"), 4)

    def test_not_for_leave(self):
        for step in ("lay q", "stretch q"):
            self.assertEqual(self.line_of(Refused, step, "leave"), 1)
            self.assertEqual(self.line_of(Refused, "quit ok\nleave\n" + step, "leave"), 3)
            self.assertEqual(self.line_of(Refused, "find h\non none\nquit no\n" + step + "\nend", "leave"), 4)
        DeedCode("leave", "strike p\nfree p\nlook h p\ngive h p")

    def test_least_line(self):
        self.assertEqual(self.line_of(Refused, "give h p\ngive h p\nlay p\nlay p"), 2)
        self.assertEqual(self.line_of(Refused, "give h p\nlay p\ngive h p", "leave"), 2)
        self.assertEqual(self.line_of(Refused, "find h\non there\ngive h p\ngive h p\nend\non none\nlay p\nlay p\nend"), 4)
        self.assertEqual(self.line_of(Refused, "find h\non none\nlay p\nlay p\nend\non there\ngive h p\ngive h p\nend"), 4)


if __name__ == "__main__":
    unittest.main()
