"""[41], [42], [43], [46], [47]: plays of book codes on book cases."""

import random
import unittest

from bookbrute import cases, plain_play, slipped, some_text, told
from heldplaces.bookcodes import BookCode
from heldplaces.bookplay import BookPlay, play_book
from heldplaces.bookrules import BookRules
from heldplaces.errors import BadCase, HeldError
from samples import BOOK, FORGETS_ONE, LESS, TURNED, UNTIL, WHOLE, book_code

EMPTY = (4, 1, (), (), 0)


def play(kind, text, case=EMPTY, rules=WHOLE):
    return play_book(BookCode(kind, rules, text), case)


class TestExamples(unittest.TestCase):
    def test_examples(self):
        note, fail, undo, redo = [book_code(kind) for kind in BOOK]
        one, until = book_code("note", FORGETS_ONE), book_code("fail", UNTIL)
        first, second = play_book(note, (4, 1, (2, 1), (), 1)), play_book(one, (4, 1, (2, 1), (), 1))
        self.assertEqual([first.ended, first.fields, first.written, first.seals, first.broken],
                         ["done", (2, 3, 0, 2, 0), (1,), {2: 2, 3: 1}, ()])
        self.assertEqual([second.fields, second.broken], [(2, 4, 0, 2, 0), ("fields",)])
        self.assertEqual([play_book(until, (3, 1, (), (), 3)).back, play_book(fail, (3, 1, (), (), 3)).back,
                          play_book(undo, (5, 1, (1, 3), (), 0)).fields], [(), (0, 2, 1), (3, 1, 3, 0, 3)])
        self.assertEqual([play_book(until, (3, 1, (), (), 3)).broken, play_book(redo, (3, 0, (1,), (), 0)).ended], [("rows",), "refused"])
        self.assertIsInstance(first, BookPlay)
        self.assertEqual(play_book(code=redo, case=(3, 0, (), (2,), 0)).again, (0, 1))


class TestCases(unittest.TestCase):
    def refused(self, kind, case, rules=WHOLE):
        with self.assertRaises(BadCase) as caught:
            play_book(BookCode(kind, rules, "quit"), case)
        self.assertIs(caught.exception.case, case)

    def test_values_that_are_no_cases(self):
        for kind in BOOK:
            for case in [None, True, 4, "case", (), (4, 1, (), ()), (4, 1, (), (), 0, 0), [4, 1, (), (), 0], (4, 1, [], (), 0),
                         (4, 1, (), [], 0), (4, 1, [2], (), 0), (4, 1, (), [1], 0), (4, 1, 2, (), 0), (4, 1, (), None, 0),
                         (4, 1, "", (), 0), (4, 1, (0,), (), 0), (4, 1, (-1, 2), (), 0), (4, 1, (True,), (), 0),
                         (4, 1, (), (True,), 0), (4, 1, (1.0,), (), 0), (4, 1, ((1,),), (), 0),
                         (4, 1, (), (0,), 0), (4, 1, (None,), (), 0), (4, 1, (5,), (), 0), (4, 1, (2, 3), (), 0), (4, 1, (2,), (3,), 0),
                         (4, 1, (), (4, 1), 0), (4, 4, (), (), 0), (4, -1, (), (), 0), (4, True, (), (), 0), (4, None, (), (), 0),
                         (4, 1.0, (), (), 0), (0, 0, (), (), 0), (-4, 0, (), (), 0), (True, 0, (), (), 0), ("4", 1, (), (), 0),
                         (4, 1, (), (), -1), (4, 1, (), (), True), (4, 1, (), (), None), (4, 1, (), (), 5), (4, 1, (3,), (), 2),
                         (4, 1, (), (1,), 1), (4, 1, {}, (), 0)]:
                self.refused(kind, case)

    def test_sizes_not_in_use(self):
        self.refused("note", (1, 0, (), (), 0), LESS)
        self.refused("note", (3, 0, (), (), 0), BookRules("8 - size"))
        self.refused("note", (8, 0, (), (), 0), BookRules("8 - size"))
        self.refused("fail", (4, 0, (1, 2), (), 1), LESS)
        self.refused("redo", (4, 0, (1, 2), (1,), 0), LESS)
        for case in ((4, 0, (1, 2), (), 0), (4, 3, (), (), 3), (2, 1, (), (1,), 0)):
            play("note", "quit", case, LESS)

    def test_own_rows(self):
        for case in ((4, 0, (2,), (), 1), (4, 0, (), (), 4)):
            play("note", "quit", case)
            play("fail", "quit", case)
            self.refused("undo", case)
            self.refused("redo", case)


class TestEnds(unittest.TestCase):
    def check(self, kind, text, case, ended, fields=None):
        one = play(kind, text, case)
        self.assertEqual(one.ended, ended, text)
        if fields is not None:
            self.assertEqual(one.fields, fields, text)

    def test_done_and_refused(self):
        for text, ended in [("", "done"), ("quit", "done"), ("no", "refused"), ("quit\nno", "done"),
                            ("if own is 0\nno\nend\nquit", "refused"), ("if 0 < own\nno\nelse\nmore = 0\nend", "done"),
                            ("if a < 1 and not b is 0\nno\nend", "done")]:
            self.check("fail", text, EMPTY, ended)

    def test_wrap(self):
        for text, fields in [("mark = wrap 3", 3), ("mark = wrap 4", 0), ("mark = wrap 7", 3), ("mark = wrap 0 - 1", 3),
                             ("mark = wrap 0 - 4", 0), ("mark = wrap next - size", 1), ("mark = wrap next + size + 2", 3)]:
            self.check("fail", text, EMPTY, "done", (1, 0, 0, 0, fields))
        for text in ("mark = wrap 8", "mark = wrap 0 - 5", "a = wrap size + 4", "a = wrap 0 - size - 1"):
            self.check("fail", text, EMPTY, "beyond", (1, 0, 0, 0, 1))

    def test_fields(self):
        for k, name in enumerate(("next", "many", "more", "own", "mark")):
            for text, number in [(" = size", 4), (" = 0", 0), (" = 2 + 2", 4), (" = wrap 5", 1)]:
                fields = [1, 0, 0, 0, 1]
                fields[k] = number
                self.check("note", name + text, EMPTY, "done", tuple(fields))
            for text in (" = size + 1", " = 0 - 1", " = next - 2"):
                self.check("note", name + text, EMPTY, "beyond", (1, 0, 0, 0, 1))
        self.check("note", "a = 0 - 30\nb = size + 99", EMPTY, "done")

    def test_sealed(self):
        case = (6, 1, (3, 1), (1,), 0)
        for place, length in ((3, 3), (5, 3), (0, 1), (1, 1)):
            one = play("note", "a = %d\nb = sealed a\nmany = b" % place, case)
            self.assertEqual((one.ended, one.fields[1]), ("done", length))
        for text in ("a = 4", "a = 2", "a = 6", "a = 0 - 1", "a = 12", "next = size\na = next", "a = size"):
            self.assertEqual(play("note", text + "\nb = sealed a", case).broken, ("inside",))
        self.check("undo", "next = size\nb = sealed next", case, "beyond")
        self.check("undo", "mark = 0\nb = sealed mark", case, "done")
        # Rows of the open group have no seal.
        for place in (0, 5):
            self.check("note", "a = %d\nb = sealed a" % place, (6, 1, (3,), (), 2), "beyond")
        self.check("note", "a = 4\nb = sealed a", (6, 1, (3,), (), 2), "done")
        # What was sealed is gone where a row is written.
        self.check("note", "a = 5\nwrite a\nb = sealed a", case, "beyond")
        self.check("note", "a = 5\nb = sealed a\nwrite a", case, "done")
        self.assertEqual(play("note", "a = 5\nwrite a", case).seals, {3: 3, 0: 1, 1: 1})
        self.assertEqual(play("note", "a = 4\nwrite a", case).seals, {3: 3, 5: 3, 0: 1, 1: 1})

    def test_write(self):
        for text in ("a = 4\nwrite a", "a = 0 - 1\nwrite a", "next = size\nwrite next", "mark = size\nwrite mark"):
            one = play("note", text)
            self.assertEqual((one.ended, one.written), ("beyond", ()))
        self.assertEqual(play("note", "a = 3\nwrite a").written, (3,))

    def test_moves(self):
        case = (4, 1, (1,), (2,), 0)
        for text, back, place in [("back 0 times", (), 1), ("back 2 times", (0, 3), 3), ("back size times", (0, 3, 2, 1), 1),
                                  ("a = 3\nback until a", (0, 3), 3), ("back until next", (), 1), ("back until mark", (), 1),
                                  ("a = 2\nback until a", (0, 3, 2), 2)]:
            one = play("undo", text, case)
            self.assertEqual((one.ended, one.back, one.again, one.fields[0]), ("done", back, (), place), text)
        for text, again, place in [("again 0 times", (), 1), ("again 2 times", (1, 2), 3), ("again size times", (1, 2, 3, 0), 1),
                                   ("a = 3\nagain until a", (1, 2), 3), ("again until next", (), 1),
                                   ("a = 0\nagain until a", (1, 2, 3), 0)]:
            one = play("redo", text, case)
            self.assertEqual((one.ended, one.back, one.again, one.fields[0]), ("done", (), again, place), text)
        for text in ("WORD size + 1 times", "WORD 0 - 1 times", "a = 4\nWORD until a", "a = 0 - 1\nWORD until a", "next = 4\nWORD 0 times",
                     "next = size\nWORD until mark", "mark = size\nWORD until mark", "next = size\nWORD until next"):
            for kind, word in (("fail", "back"), ("undo", "back"), ("redo", "again")):
                one = play(kind, text.replace("WORD", word), case)
                self.assertEqual((one.ended, one.back, one.again, one.broken), ("beyond", (), (), ("inside",)))

    def test_asked_once(self):
        # The sum and the place are asked ahead of the moves, which set next.
        self.assertEqual(play("fail", "back next times", (4, 3, (), (), 0)).back, (2, 1, 0))
        self.assertEqual(play("fail", "back until next", (4, 3, (), (), 0)).back, ())

    def test_beyond_keeps_what_was_done(self):
        one = play("note", "many = 3\nwrite next\nmore = 9", (4, 1, (1,), (), 0))
        self.assertEqual((one.ended, one.fields, one.written, one.seals), ("beyond", (1, 3, 0, 0, 1), (1,), {0: 1}))
        one = play("undo", "back 2 times\nown = 9", (4, 1, (1,), (), 0))
        self.assertEqual((one.ended, one.fields, one.back), ("beyond", (3, 1, 0, 0, 1), (0, 3)))


class TestBroken(unittest.TestCase):
    def test_each_promise(self):
        for kind, text, case, broken in [
                ("note", "", EMPTY, ("rows", "fields")), ("note", "no", EMPTY, ("full",)), ("note", "no", (2, 0, (), (), 2), ()),
                ("note", "", (2, 0, (), (), 2), ("full",)), ("note", "more = 0\nno", (2, 0, (), (), 2), ("full",)),
                ("note", "write next\nno", (2, 0, (), (), 2), ("full",)), ("note", "a = 3\nb = wrap a\nno", (4, 0, (), (), 4), ()),
                ("note", "write next", EMPTY, ("fields",)), ("note", "a = 2\nwrite a", EMPTY, ("rows", "fields")),
                ("note", "next = wrap next + 1\nmany = 1\nown = 1", EMPTY, ("rows",)), ("note", "a = sealed next", EMPTY, ("inside",)),
                ("fail", "", EMPTY, ()), ("fail", "no", EMPTY, ("full",)), ("fail", "back 1 times", EMPTY, ("rows", "fields")),
                ("fail", "back 0 times", EMPTY, ()), ("fail", "", (4, 1, (), (), 1), ("rows", "fields")),
                ("undo", "", EMPTY, ("full",)), ("undo", "no", EMPTY, ()), ("undo", "back 0 times\nno", EMPTY, ("full",)),
                ("undo", "no", (4, 1, (1,), (), 0), ("full",)), ("undo", "", (4, 1, (1,), (), 0), ("rows", "fields")),
                ("undo", "back 1 times\nmany = 0\nmore = 1\nmark = next", (4, 1, (1,), (), 0), ()),
                ("undo", "back 1 times\nmany = 0\nmore = 1\nmark = next", (4, 1, (2,), (), 0), ("rows", "fields")),
                ("redo", "", EMPTY, ("full",)), ("redo", "no", EMPTY, ()), ("redo", "again 0 times\nno", EMPTY, ("full",)),
                ("redo", "next = next\nno", EMPTY, ("full",)), ("redo", "no", (4, 1, (), (1,), 0), ("full",)),
                ("redo", "again 1 times\nmany = 1\nmore = 0\nmark = next", (4, 1, (), (1,), 0), ()),
                ("redo", "next = 2\nagain 1 times\nnext = 2\nmany = 1\nmore = 0\nmark = next", (4, 1, (), (1,), 0), ("rows",)),
                ("redo", "again 1 times\nmany = 1\nmore = 0", (4, 1, (), (1,), 0), ("fields",))]:
            self.assertEqual(play(kind, text, case).broken, broken, (kind, text, case))

    def test_right_codes(self):
        for kind in BOOK:
            for rules in (WHOLE, LESS, BookRules("3"), BookRules("6 - size")):
                code = book_code(kind, None, rules)
                for size in range(1, 6):
                    for case in cases(rules, kind, size):
                        self.assertEqual(play_book(code, case).broken, (), (kind, case))

    def test_slips(self):
        self.assertEqual(play_book(book_code("note", TURNED), (3, 2, (), (), 0)).broken, ("fields",))
        self.assertEqual(play_book(book_code("note", TURNED), (64, 63, (), (), 0)).broken, ())
        self.assertEqual(play_book(book_code("note", TURNED), (65, 63, (), (), 0)).broken, ("fields",))
        for kind, text, case, broken in [
                ("undo", BOOK["undo"].replace("a = wrap next - 1", "a = next - 1"), (3, 0, (2,), (), 0), ("inside",)),
                ("undo", BOOK["undo"].replace("mark = next", ""), (3, 0, (2,), (), 0), ("fields",)),
                ("redo", BOOK["redo"].replace("again b times", "again 1 times"), (3, 0, (), (2,), 0), ("rows", "fields")),
                ("redo", BOOK["redo"].replace("if more is 0\nno\nend\n", ""), (3, 0, (1,), (), 0), ("inside",)),
                ("note", BOOK["note"].replace("if own is keep\nno\nend\n", ""), (3, 0, (), (), 3), ("inside",)),
                ("note", BOOK["note"].replace("more = 0", "own = own"), (3, 0, (), (1,), 0), ("fields",))]:
            text = text if not text.endswith("\n") else text[:-1]
            self.assertEqual(play(kind, text, case).broken, broken, (kind, text))


class TestAgainstPlainPlays(unittest.TestCase):
    """Plays held against a plain player of the lines, and what is owed by lists of groups."""

    def check(self, kind, text, rules, most):
        code = BookCode(kind, rules, text)
        for size in range(1, most + 1):
            for case in cases(rules, kind, size):
                self.assertEqual(told(play_book(code, case)), plain_play(code, case), (kind, text, rules.keep, case))

    def test_drawn_texts(self):
        rng = random.Random(3)
        made = 0
        while made < 160:
            kind, rules = rng.choice(list(BOOK)), rng.choice([WHOLE, WHOLE, LESS, BookRules("2"), BookRules("5 - size")])
            text = slipped(rng, kind) if rng.random() < 0.6 else some_text(rng, kind)
            try:
                BookCode(kind, rules, text)
            except HeldError:
                continue
            made += 1
            self.check(kind, text, rules, 4)

    def test_right_texts(self):
        for kind, text in BOOK.items():
            self.check(kind, text, WHOLE, 5)

    def test_great_sizes(self):
        code = book_code("undo")
        case = (2000, 700, (900, 800), (300,), 0)
        self.assertEqual(told(play_book(code, case)), plain_play(code, case))
        one = play_book(book_code("redo"), (2000, 1900, (900, 800), (300,), 0))
        self.assertEqual((one.again[0], one.again[-1], len(one.again), one.fields), (1900, 199, 300, (200, 2000, 0, 0, 200)))


if __name__ == "__main__":
    unittest.main()
