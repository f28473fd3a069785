"""[37], [38]: deeds judged for all rows of outcomes, and what a program needs."""

import random
import unittest

from deedbrute import PROMISES, rows
from heldplaces.deedcodes import DeedCode
from heldplaces.deedplay import play_deed
from heldplaces.deedverdicts import deed_keeps, deed_kept, failing_way, needs, never_met
from heldplaces.errors import BadPromise, OtherKinds
from samples import CARELESS, CHANGE, COPY, ENTER, LEAVE, MOVE, free_code, put_code

WHOLE = [("enter", ENTER), ("leave", LEAVE), ("change", CHANGE), ("change", COPY)]
STEPS = ["find h", "look h p", "lay p", "lay q", "give h p", "give i q", "free p", "strike p", "stretch p", "enter h", "enter i",
         "leave", "i = h", "q = p", "quit no", "quit ok"]


def deeds(enter=ENTER, leave=LEAVE, change=CHANGE):
    return [DeedCode("enter", enter), DeedCode("leave", leave), DeedCode("change", change)]


class TestExamples(unittest.TestCase):
    def test_examples(self):
        careless = DeedCode("enter", CARELESS)
        self.assertEqual([deed_kept(code) for code in deeds()], [PROMISES] * 3)
        self.assertEqual(deed_kept(careless), ("inside", "owed", "told"))
        self.assertEqual([failing_way(careless, "back"), needs(deeds()), needs(deeds(), True)],
                         [((1, "laid"), (5, "out")), ("pages", "own", "unlike"), ("pages", "own", "unlike", "stale")])
        self.assertEqual(never_met(DeedCode("leave", LEAVE)), ((1, "none"), (5, "stale"), (9, "bare"), (10, "unlent")))

    def test_names_of_arguments(self):
        code = DeedCode("enter", CARELESS)
        self.assertEqual([deed_keeps(code=code, promise="whole"), failing_way(code=code, promise="inside"), deed_kept(code=code),
                          never_met(code=code), needs(deeds=deeds(), outside=False)],
                         [False, None, ("inside", "owed", "told"), (), ("pages", "own", "unlike")])

    def test_bad_promises(self):
        code = DeedCode("enter", ENTER)
        for value in ("", "Inside", "full", None, 1, True, ["back"], ("told",), {}):
            for question in (deed_keeps, failing_way):
                with self.assertRaises(BadPromise) as caught:
                    question(code, value)
                self.assertIs(caught.exception.promise, value)

    def test_other_deeds(self):
        self.assertEqual(deed_kept(DeedCode("change", COPY)), PROMISES)
        self.assertEqual(deed_kept(DeedCode("change", MOVE)), ("inside", "owed", "told"))
        self.assertEqual(failing_way(DeedCode("change", MOVE), "back")[:4], ((1, "there"), (5, "held"), (9, "struck"), (10, "freed")))
        self.assertEqual(deed_kept(DeedCode("enter", "")), ("inside", "whole", "back", "told"))
        self.assertEqual(failing_way(DeedCode("enter", ""), "owed"), ())
        self.assertEqual(deed_kept(DeedCode("enter", "quit no")), ("inside", "whole", "owed", "back"))
        self.assertEqual(never_met(DeedCode("enter", "")), ())
        self.assertEqual(never_met(DeedCode("enter", "find h\non there\nfind i\nend")), ((1, "there"), (3, "none"), (3, "there")))


class TestAgainstPlays(unittest.TestCase):
    """The questions held against playing all rows of outcomes."""

    def check(self, kind, text):
        code = DeedCode(kind, text)
        fewest, met, honest = {}, set(), set()
        for row in rows(kind, text):
            one = play_deed(code, row)
            met |= set(one.taken)
            honest |= set(one.taken) if one.honest else set()
            for promise in one.broken:
                fewest[promise] = min(fewest.get(promise, 99), len(row))
        self.assertEqual(never_met(code), tuple(sorted(met - honest)), text)
        self.assertEqual(deed_kept(code), tuple(promise for promise in PROMISES if promise not in fewest), text)
        for promise in PROMISES:
            way = failing_way(code, promise)
            self.assertEqual(deed_keeps(code, promise), way is None)
            self.assertEqual(None if way is None else len(way), fewest.get(promise), text)
            if way is not None:
                one = play_deed(code, [outcome for _, outcome in way])
                self.assertEqual(one.taken, way)
                self.assertIn(promise, one.broken)

    def test_slips(self):
        for kind, text in WHOLE:
            self.check(kind, text)
            lines = text.split("\n")
            for k in range(len(lines)):
                for slip in (lines[:k] + lines[k + 1:], lines[:k + 1] + lines[k:],
                             lines[:k] + lines[k + 1:k + 2] + [lines[k]] + lines[k + 2:]):
                    try:
                        DeedCode(kind, "\n".join(slip))
                    except ValueError:
                        continue
                    self.check(kind, "\n".join(slip))

    def test_some_texts(self):
        rng = random.Random(9)
        made = 0
        while made < 100:
            kind, text = rng.choice(WHOLE)
            lines = text.split("\n")
            for _ in range(rng.randint(1, 3)):
                lines.insert(rng.randint(0, len(lines)), rng.choice(STEPS))
            try:
                DeedCode(kind, "\n".join(lines))
            except ValueError:
                continue
            made += 1
            self.check(kind, "\n".join(lines))

    def test_eight_steps(self):
        self.check("change", "find h\nlook h p\nstretch p\nstrike p\nfree p\nlay q\ngive i q\nlook i p\nenter i")


class TestNeeds(unittest.TestCase):
    def test_words(self):
        none = deeds("", "", "")
        self.assertEqual([needs(none), needs(none, outside=True)], [("pages",), ("pages", "stale")])
        # Also a step that is beyond is come to, and one behind an outcome that no store tells.
        self.assertEqual(needs(deeds("", "look h p", "")), ("pages", "own"))
        self.assertEqual(needs(deeds("", "", "give h p")), ("pages", "unlike"))
        self.assertEqual(needs(deeds("find h\non there\nlay p\ngive h p\nend", "", "")), ("pages", "unlike"))
        self.assertEqual(needs(deeds("", "", "quit ok\nlook h p\ngive h p")), ("pages",))
        self.assertEqual(needs(deeds("lay p\non full\nquit no\nend\ngive h p", "", "")), ("pages", "unlike"))

    def test_stale(self):
        again = "find h\nlook h p\nfree p\n"
        self.assertEqual(needs(deeds(leave=again + "look h q")), ("pages", "own", "unlike", "stale"))
        self.assertEqual(needs(deeds("", again + "on unlent\nlook h q\nend", "")), ("pages", "own"))
        self.assertEqual(needs(deeds("", "find h\nlook h p\non stale\nlook h q\nend\nfree p", "")), ("pages", "own"))
        self.assertEqual(needs(deeds("", again + "give i p\nlook i q", "")), ("pages", "own", "unlike"))
        self.assertEqual(needs(deeds("", again + "give i p\nlook h q", "")), ("pages", "own", "unlike", "stale"))
        self.assertEqual(needs(deeds("", again + "leave\nlook h q", "")), ("pages", "own", "stale"))
        self.assertEqual(needs(deeds("", "find h\nlook h p\nstrike p\nlook h q", "")), ("pages", "own"))
        # What lay puts to the old place is freed there, and the old id is looked at.
        self.assertEqual(needs(deeds("", "", "find h\nlook h p\nstrike p\nlay q\nfree q\nlook h p")), ("pages", "own", "stale"))
        self.assertEqual(needs(deeds("", "", "find h\nlook h p\nlay q\nfree q\nlook h p")), ("pages", "own"))

    def test_other_kinds(self):
        enter, leave, change = deeds()
        self.assertEqual(needs((enter, leave, change)), ("pages", "own", "unlike"))
        for some in ([], [enter], [enter, leave], [leave, enter, change], [enter, change, leave], [enter, leave, leave],
                     [enter, leave, change, change], (enter, enter, change), [put_code(), leave, change], [enter, leave, free_code()]):
            with self.assertRaises(OtherKinds) as caught:
                needs(some)
            self.assertEqual(caught.exception.part, "deeds")


if __name__ == "__main__":
    unittest.main()
