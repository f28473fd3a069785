"""[32], [36], [37]: plays of deeds on rows of outcomes."""

import random
import unittest

from deedbrute import play, rows
from heldplaces.deedcodes import DeedCode
from heldplaces.deedplay import DeedPlay, play_deed
from heldplaces.errors import BadOutcomes
from samples import CARELESS, CHANGE, COPY, ENTER, LEAVE, MOVE


def told(kind, text, *outcomes):
    one = play_deed(DeedCode(kind, text), list(outcomes))
    assert isinstance(one, DeedPlay)
    return one


class TestPlays(unittest.TestCase):
    def test_examples(self):
        one, two = told("enter", ENTER, "laid", "out", "struck"), told("enter", CARELESS, "laid", "out")
        self.assertEqual([one.told, one.taken, one.honest, one.broken, two.broken, told("change", CHANGE, "there", "held", "bare").honest],
                         ["no", ((1, "laid"), (5, "out"), (7, "struck")), True, (), ("whole", "back"), False])
        self.assertEqual((one.ended, two.ended), ("done", "done"))

    def word_of(self, code, outcomes):
        with self.assertRaises(BadOutcomes) as caught:
            play_deed(code, outcomes)
        return caught.exception.word

    def test_bad_outcomes(self):
        code = DeedCode("enter", ENTER)
        self.assertEqual([self.word_of(code, []), self.word_of(code, ["laid"]), self.word_of(code, ("laid", "out"))],
                         ["lay", "give", "strike"])
        for value in ("given", "", "Laid", None, 1, True, ["laid"], ("laid",), {}):
            self.assertEqual(self.word_of(code, [value]), "lay")
            self.assertEqual(self.word_of(code, ("laid", value) if value != "given" else ("laid", "laid")), "give")
        self.assertEqual(self.word_of(DeedCode("change", CHANGE), ["there", "held", "laid"]), "stretch")

    def test_lists_and_tuples_and_what_is_left_over(self):
        code = DeedCode("enter", ENTER)
        for outcomes in (["full"], ("full",), ["full", "no such"], ("full", 7, None)):
            one = play_deed(code=code, outcomes=outcomes)
            self.assertEqual((one.ended, one.told, one.taken, one.honest, one.broken), ("done", "no", ((1, "full"),), True, ()))
        one = play_deed(DeedCode("leave", ""), ["x"])
        self.assertEqual((one.ended, one.told, one.taken, one.honest, one.broken), ("done", "ok", (), True, ("owed",)))

    def test_ends(self):
        for text, ended, end in [("", "done", "ok"), ("quit ok\nquit no", "done", "ok"), ("quit no\nquit ok", "done", "no"),
                                 ("leave", "done", "ok"), ("enter h", "beyond", None), ("look h p", "beyond", None),
                                 ("free p", "beyond", None), ("strike q", "beyond", None), ("stretch p", "beyond", None),
                                 ("give h p", "beyond", None), ("h = i\np = q", "done", "ok")]:
            one = told("change", text)
            self.assertEqual((one.ended, one.told, one.taken), (ended, end, ()))
            self.assertEqual("inside" in one.broken, ended == "beyond")

    def test_beyond(self):
        for text, outcomes in [
                ("find h\nlook h p", ["none"]), ("find h\nenter h", ["none"]), ("find h\nlook i p", ["there"]),
                ("find h\nlook h p\nfree p", ["there", "stale"]), ("lay p\nstrike p", ["full"]), ("lay p\ngive h p", ["full"]),
                ("lay p\nstretch p", ["full"]), ("lay p\ngive h p\nenter h", ["laid", "out"]), ("lay p\nfree q", ["laid"]),
                ("find h\nh = i\nenter h", ["there"]), ("lay p\np = q\nfree p", ["laid"]),
                ("find h\nfind h\nlook h p", ["there", "none"])]:
            one = told("change", text, *outcomes)
            self.assertEqual((one.ended, one.told, one.broken, len(one.taken)), ("beyond", None, ("inside",), len(outcomes)))
        one = told("change", "lay p\nq = p\nstrike q\nfind i\nh = i\nenter h", "laid", "struck", "there")
        self.assertEqual((one.ended, one.told), ("done", "ok"))

    def test_blocks(self):
        text = "find h\non none\nquit no\nend\non there\nlook h p\non held\nend\non stale\nquit ok\nend\nleave\nend\nleave"
        self.assertEqual(told("leave", text, "none").taken, ((1, "none"),))
        self.assertEqual(told("leave", text, "there", "held").taken, ((1, "there"), (6, "held")))
        self.assertEqual(told("leave", text, "there", "stale").broken, ())
        self.assertEqual(told("leave", "find h\nfind i\non none\nend\nquit no", "there", "none").told, "no")

    def test_honest(self):
        for kind, text, outcomes, is_honest in [
                ("change", "find h", ["there"], True), ("change", "find h", ["none"], False), ("enter", "find h", ["there"], False),
                ("enter", "find h", ["none"], True), ("change", "leave\nfind h", ["none"], True),
                ("change", "leave\nfind h", ["there"], False), ("change", "find h\nlook h p", ["there", "stale"], False),
                ("change", "find h\nlook h p\nfree p\nlook h q", ["there", "held", "freed", "held"], False),
                ("change", "find h\nlook h p\nfree p\nlook h q", ["there", "held", "freed", "stale"], True),
                ("change", "find h\nlook h p\nfree p\nfree p", ["there", "held", "freed", "unlent"], True),
                ("change", "find h\nlook h p\nfree p\nfree p", ["there", "held", "freed", "freed"], False),
                ("change", "find h\nlook h p\nfree p", ["there", "held", "unlent"], False),
                ("change", "find h\nlook h p\nstrike p\nstrike p", ["there", "held", "struck", "bare"], True),
                ("change", "find h\nlook h p\nstrike p\nstrike p", ["there", "held", "struck", "struck"], False),
                ("change", "find h\nlook h p\nstrike p\nstretch p", ["there", "held", "struck", "bare"], True),
                ("change", "find h\nlook h p\nstrike p\nstretch p", ["there", "held", "struck", "full"], False),
                ("change", "find h\nlook h p\nstretch p", ["there", "held", "full"], True),
                ("change", "find h\nlook h p\nfree p\ngive i p\nlook i q\nlook h q",
                 ["there", "held", "freed", "given", "held", "stale"], True),
                ("change", "find h\nlook h p\nfree p\ngive i p\nlook i q\nlook h q",
                 ["there", "held", "freed", "given", "stale", "stale"], False),
                ("enter", "lay p\nfree p", ["laid", "unlent"], True), ("enter", "lay p\nfree p", ["laid", "freed"], False),
                ("enter", "lay p", ["full"], True), ("enter", "lay p\ngive h p", ["laid", "out"], True)]:
            self.assertEqual(told(kind, text, *outcomes).honest, is_honest, (text, outcomes))

    def test_where_lay_comes_to(self):
        # Behind the strike the place is lent still, so that free tells where lay came to.
        text = "find h\nlook h p\nstrike p\nlay q\nfree q"
        for last in ("freed", "unlent"):
            self.assertTrue(told("change", text, "there", "held", "struck", "laid", last).honest)
        text = "find h\nlook h p\nlay q\nfree q"
        self.assertTrue(told("change", text, "there", "held", "laid", "unlent").honest)
        self.assertFalse(told("change", text, "there", "held", "laid", "freed").honest)
        text = "find h\nlook h p\nstrike p\nlay q\nstrike p"
        for last in ("struck", "bare"):
            self.assertTrue(told("change", text, "there", "held", "struck", "laid", last).honest)
        # Where lay comes to the old place, the old id leads to a record with the handed length: all is right then.
        one = told("change", "find h\nlook h p\nstrike p\nlay q", "there", "held", "struck", "laid")
        self.assertEqual(one.broken, ("whole", "owed"))
        one = told("change", "find h\nlook h p\nstrike p\nlay q\nstrike p\non bare\nquit ok\nend\nquit no", "there", "held", "struck",
                   "laid", "struck")
        self.assertEqual(one.broken, ("whole", "back", "told"))
        one = told("change", text + "\non struck\nleave\nfree p\nend", "there", "held", "struck", "laid", "struck", "freed")
        self.assertEqual(one.broken, ("owed",))

    def test_given_twice(self):
        text = "find h\nlook h p\ngive i p\n"
        self.assertEqual(told("leave", text + "quit no", "there", "held", "given").broken, ("whole", "told"))
        self.assertEqual(told("leave", text + "strike p\nfree p\nleave", "there", "held", "given", "struck", "freed").broken, ("whole",))

    def test_broken(self):
        for kind, text, outcomes, broken in [
                ("enter", "", [], ("owed",)), ("leave", "leave", [], ("whole",)), ("change", "", [], ("owed",)),
                ("change", "leave\nquit no", [], ("whole", "back", "told")), ("enter", "quit no", [], ("told",)),
                ("enter", "lay p\nquit no", ["laid"], ("whole", "back", "told")), ("enter", "lay p\nquit no", ["full"], ()),
                ("enter", "lay p\ngive h p", ["laid", "given"], ("whole", "owed")),
                ("enter", "lay p\ngive h p\nenter h", ["laid", "given"], ()),
                ("enter", "lay p\ngive h p\nenter h\nstrike p", ["laid", "given", "struck"], ("whole", "owed")),
                ("enter", "lay p\ngive h p\nenter h\nfree p", ["laid", "given", "freed"], ("whole",)),
                ("change", "find h\nlook h p\nstretch p", ["there", "held", "stretched"], ()),
                ("change", "find h\nlook h p\nstretch p", ["there", "held", "full"], ("owed",)),
                ("change", "find h\nlook h p\nstretch p\nquit no", ["there", "held", "stretched"], ("back", "told")),
                ("change", "find h\nlook h p\nstretch p\nquit no", ["there", "stale"], ("inside",)),
                ("leave", LEAVE, ["there", "held", "struck", "freed"], ()),
                ("leave", LEAVE.replace("\nfree p", ""), ["there", "held", "struck"], ("whole",)),
                ("leave", LEAVE.replace("strike p\n", ""), ["there", "held", "freed"], ("whole",)),
                ("leave", LEAVE.replace("\nleave", ""), ["there", "held", "struck", "freed"], ("whole", "owed")),
                ("leave", LEAVE + "\nquit no", ["there", "held", "struck", "freed"], ("back", "told")),
                ("leave", "find h\nlook h p\nfree p\ngive i p\nquit no", ["there", "held", "freed", "given"], ("whole", "told")),
                ("change", "find h\nlook h p\nfree p\ngive i p\nenter i\nstretch p",
                 ["there", "held", "freed", "given", "stretched"], ()),
                ("change", COPY, ["there", "held", "laid", "given", "struck", "freed"], ()),
                ("change", COPY, ["there", "held", "laid", "out", "struck"], ()),
                ("change", MOVE, ["there", "held", "struck", "freed", "full"], ("whole", "back"))]:
            self.assertEqual(told(kind, text, *outcomes).broken, broken, (text, outcomes))


class TestAgainstStore(unittest.TestCase):
    """Plays held against a store with several keys, played step by step."""

    STEPS = ["find h", "find i", "look h p", "look i q", "lay p", "lay q", "give h p", "give i q", "free p", "free q", "strike p",
             "strike q", "stretch p", "enter h", "enter i", "leave", "h = i", "p = q", "quit no", "quit ok"]
    WHOLE = [("enter", ENTER), ("leave", LEAVE), ("change", CHANGE), ("change", MOVE), ("change", COPY)]

    def check(self, kind, text):
        code = DeedCode(kind, text)
        for row in rows(kind, text):
            one = play_deed(code, row)
            self.assertEqual((one.ended, one.told, one.taken, one.honest, one.broken), play(kind, text, row), (kind, text, row))

    def slipped(self, text):
        lines = text.split("\n")
        for k in range(len(lines)):
            yield lines[:k] + lines[k + 1:]
            yield lines[:k] + [lines[k]] + lines[k:]
            yield lines[:k] + lines[k + 1:k + 2] + [lines[k]] + lines[k + 2:]

    def test_slips(self):
        made = 0
        for kind, text in self.WHOLE:
            for lines in self.slipped(text):
                try:
                    DeedCode(kind, "\n".join(lines))
                except ValueError:
                    continue
                made += 1
                self.check(kind, "\n".join(lines))
        self.assertLess(40, made)

    def test_some_texts(self):
        rng = random.Random(8)
        made = 0
        while made < 200:
            kind, text = rng.choice(self.WHOLE)
            lines = text.split("\n")
            for _ in range(rng.randint(1, 3)):
                lines.insert(rng.randint(0, len(lines)), rng.choice(self.STEPS))
            if rng.random() < 0.5:
                lines = [rng.choice(self.STEPS) for _ in range(rng.randint(2, 9))]
            try:
                DeedCode(kind, "\n".join(lines))
            except ValueError:
                continue
            made += 1
            self.check(kind, "\n".join(lines))


if __name__ == "__main__":
    unittest.main()
