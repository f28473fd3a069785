"""[47], [48], [69]: book codes judged for all sizes."""

import random
import unittest

from bookbrute import PROMISES, broken, cases, plain_play, rows_of, slipped, some_text
from heldplaces.bookcodes import BookCode
from heldplaces.bookplay import play_book
from heldplaces.bookrules import BookRules
from heldplaces.bookverdicts import (
    book_is_right, book_keeps, book_kept, least_book_case, next_right_book, next_wrong_book)
from heldplaces.errors import BadPromise, BadSize, HeldError
from samples import BOOK, FAIL, FORGETS_ONE, LESS, NOTE, REDO, TURNED, UNDO, UNTIL, WHOLE, book_code

ALL = ("inside", "rows", "fields", "full")
NONE = [True, False, None, "3", 1.0, (3,), [], {}, 0, -1]
BIG = 10 ** 30 - 1


class TestExamples(unittest.TestCase):
    def test_examples(self):
        until, one = book_code("fail", UNTIL), book_code("note", FORGETS_ONE)
        self.assertEqual([book_kept(book_code("note")), book_kept(until), book_kept(book_code("fail", UNTIL, LESS))],
                         [ALL, ("inside", "fields", "full"), ALL])
        self.assertEqual([least_book_case(until, "rows"), next_wrong_book(one, 1), least_book_case(one, "fields")[0]],
                         [(1, 0, (), (), 1), 2, 2])
        turned = book_code("note", TURNED)
        self.assertEqual([next_wrong_book(turned, 1), next_right_book(turned, 1), next_wrong_book(turned, 64), book_is_right(turned, 64)],
                         [1, 64, 65, True])

    def test_names_of_arguments(self):
        until = book_code("fail", UNTIL)
        self.assertFalse(book_keeps(code=until, promise="rows"))
        self.assertEqual(least_book_case(code=until, promise="rows"), (1, 0, (), (), 1))
        self.assertEqual(book_kept(code=until), ("inside", "fields", "full"))
        self.assertEqual([book_is_right(code=until, size=1), next_wrong_book(code=until, size=7), next_right_book(code=until, size=7)],
                         [False, 7, None])


class TestErrors(unittest.TestCase):
    def test_bad_values(self):
        code = book_code("note")
        for value in NONE + ["", "Rows", "whole", "own", ["rows"], ("rows",)]:
            for question in (book_keeps, least_book_case):
                with self.assertRaises(BadPromise) as caught:
                    question(code, value)
                self.assertIs(caught.exception.promise, value)
        for value in NONE:
            for question in (book_is_right, next_wrong_book, next_right_book):
                with self.assertRaises(BadSize) as caught:
                    question(code, value)
                self.assertIs(caught.exception.size, value)


class TestRightCodes(unittest.TestCase):
    def test_right_codes(self):
        for kind in BOOK:
            for keep in ("size", "size - 1", "3", "1", "9 - size", "size - " + str(BIG), str(BIG) + " - size", "size + 1"):
                code = book_code(kind, None, BookRules(keep))
                self.assertEqual(book_kept(code), ALL)
                start = code.rules.next_in_use(1)
                for size in (1, 5, BIG, 10 ** 59):
                    self.assertTrue(book_is_right(code, size))
                    self.assertEqual([next_wrong_book(code, size), next_right_book(code, size)], [None, code.rules.next_in_use(size)])
                if start is None:
                    self.assertEqual(book_kept(BookCode(kind, code.rules, "no")), ALL)

    def test_other_right_codes(self):
        for kind, text in [("fail", "a = mark\nb = own\nback b times\nmany = many - b\nown = 0\nmark = a"),
                           ("undo",
                            UNDO.replace("back b times",
                                         "c = next\nc = wrap c - b\nif b is size\nback size times\nelse\nback until c\nend")),
                           ("redo",
                            "if 0 < more\na = mark\na = sealed a\nmany = many + a\nmore = more - a\nagain a times\nmark = next\nelse\nno\nend"),
                           ("note", NOTE.replace("if own is 0\nmark = next\nend\n", "")),
                           ("note", NOTE.replace("next = wrap next + 1", "next = next + 1\nif next is size\nnext = 0\nend"))]:
            self.assertEqual(book_kept(book_code(kind, text)), ALL, text)


class TestAgainstTrying(unittest.TestCase):
    """The questions held against all sizes up to some bound, and all cases there."""

    def check(self, code, top):
        table = broken(code, top)
        about = (code.kind, code.rules.keep, code.text)
        kept = book_kept(code)
        for promise in PROMISES:
            sizes, case, keeps = table[promise], least_book_case(code, promise), book_keeps(code, promise)
            self.assertEqual((case is None, promise in kept), (keeps, keeps), (about, promise))
            if case is not None:
                self.assertIn(promise, play_book(code, case).broken, about)
            least = None if case is None or case[0] > top else (case[0], rows_of(case))
            self.assertEqual(least, (min(sizes), sizes[min(sizes)]) if sizes else None, (about, promise))
        wrong = sorted({size for promise in PROMISES for size in table[promise]})
        right = [size for size in range(1, top + 1) if code.rules.in_use(size) and size not in wrong]
        for size in range(1, top + 1):
            self.assertEqual(book_is_right(code, size), size not in wrong, (about, size))
            for question, some in ((next_wrong_book, wrong), (next_right_book, right)):
                found, ahead = question(code, size), [one for one in some if one >= size]
                self.assertEqual(None if found is None or found > top else found, ahead[0] if ahead else None, (about, size))

    def test_drawn_texts(self):
        rng = random.Random(5)
        keeps = ["size", "size", "size - 1", "size - 2", "2", "3", "6 - size", "8 - size", "5 - size", "1", "0 + size"]
        made = 0
        while made < 220:
            kind, rules = rng.choice(list(BOOK)), BookRules(rng.choice(keeps))
            text = slipped(rng, kind) if rng.random() < 0.65 else some_text(rng, kind)
            try:
                code = BookCode(kind, rules, text)
            except HeldError:
                continue
            made += 1
            self.check(code, 5)

    def test_each_line_left_out(self):
        for kind, text in BOOK.items():
            lines = text.split("\n")
            for k in range(len(lines)):
                for rows in (lines[:k] + lines[k + 1:], lines[:k + 1] + lines[k:],
                             lines[:k] + lines[k + 1:k + 2] + lines[k:k + 1] + lines[k + 2:]):
                    try:
                        code = BookCode(kind, WHOLE, "\n".join(rows))
                    except HeldError:
                        continue
                    self.check(code, 4)

    def test_periods(self):
        # Sizes that are told by rests: twice and three times next is the size.
        for text, top in [("a = next\na = a + next\nif a is size\nno\nend", 6),
                          ("a = next + 1\nb = a + next\na = b + next\nif a is size\nno\nend", 6),
                          ("a = many\nb = a + many\na = b + many - 1\nif a is keep\nmany = 0 - 1\nend", 6)]:
            for keep in ("size", "4", "7 - size"):
                self.check(BookCode("fail", BookRules(keep), text), top)


class TestLeastCases(unittest.TestCase):
    def test_far_cases(self):
        for kind, text, promise in [("note", NOTE.replace("if own is keep", "if own is 40"), "full"),
                                    ("undo", UNDO + "\nif b is 30\nmark = 0\nend", "fields"),
                                    ("redo", REDO.replace("again b times", "if b < 25\nagain b times\nelse\nagain 25 times\nend"), "rows"),
                                    ("undo",
                                     UNDO.replace("b = sealed a", "if 20 < more and 20 < many\na = wrap a - 1\nend\nb = sealed a"),
                                     "inside"),
                                    ("note", NOTE + "\nif own is 20 and many is keep\nown = own + 1\nend", "fields"),
                                    ("fail", FAIL.replace("mark = next", "if 9 < more and 17 < many\nmany = 3\nend\nmark = next"),
                                     "fields")]:
            code = book_code(kind, text)
            case = least_book_case(code, promise)
            self.assertIn(promise, play_book(code, case).broken, text)
            self.assertIn(promise, plain_play(code, case)[-1], text)
            self.assertEqual(next_wrong_book(code, 1), min(least_book_case(code, one)[0] for one in ALL if not book_keeps(code, one)))

    def test_sizes_and_rows(self):
        for kind, text, promise, size, rows in [
                ("undo", UNDO + "\nif b is 30\nmark = 0\nend", "fields", 30, 30),
                ("fail", FAIL + "\nif 9 < more and 17 < many\nmany = 0\nend", "fields", 28, 28),
                ("redo", REDO.replace("again b times", "if b < 25\nagain b times\nelse\nagain 25 times\nend"), "rows", 26, 26),
                ("note", NOTE.replace("more = 0", "if more is 7\nmore = 1\nelse\nmore = 0\nend"), "fields", 7, 7),
                ("fail", "if size is 12 and next is 7 and own is 3\nown = 1\nend\n" + FAIL, "rows", 12, 3)]:
            case = least_book_case(book_code(kind, text), promise)
            self.assertEqual((case[0], rows_of(case)), (size, rows), (text, case))

    def test_groups_of_the_case(self):
        # The last row but one is the first one of a group only where that has two rows.
        code = book_code("undo", "if many is 0\nno\nend\na = wrap next - 2\nb = sealed a\nif b is 2\nmany = many + 2 - 2\nown = 1\nend")
        case = least_book_case(code, "fields")
        self.assertIn("fields", play_book(code, case).broken)
        inner = least_book_case(book_code("undo", "if many < 3\nno\nend\na = wrap next - 2\nb = sealed a"), "inside")
        self.assertEqual(inner[0], 3)
        self.assertEqual(inner[2:], ((3,), (), 0))


class TestGreatNumbers(unittest.TestCase):
    """Sizes of up to 60 figures, where the answer is known by hand."""

    def test_turned(self):
        for place in (64, 10 ** 29, BIG):
            code = book_code("note", TURNED.replace("64", str(place)))
            self.assertEqual([next_wrong_book(code, 1), next_right_book(code, 1), next_wrong_book(code, place),
                              next_right_book(code, place + 1)],
                             [1, place, place + 1, None])
            self.assertEqual([book_is_right(code, place), book_is_right(code, 10 ** 60), book_kept(code)],
                             [True, False, ("inside", "rows", "full")])

    def test_bounds(self):
        for number in (5, 10 ** 30 - 2):
            code = book_code("fail", FAIL + "\nif size is " + str(number) + "\nmark = size\nend")
            self.assertEqual([next_wrong_book(code, 1), next_wrong_book(code, number + 1), next_right_book(code, number),
                              book_is_right(code, number)],
                             [number, None, number + 1, False])
            case = least_book_case(code, "fields")
            self.assertEqual((case[0], rows_of(case)), (number, 0))

    def test_rules(self):
        far = BookRules("size - " + str(BIG))
        code = book_code("fail", UNTIL.replace("back until mark", "back until mark\nif own is size\nmany = 0\nend"), far)
        self.assertEqual([book_kept(code), next_wrong_book(code, 1), next_right_book(code, 1)], [ALL, None, BIG + 1])
        least = book_code("note", NOTE.replace("if own is keep", "if own is 1"), far)
        self.assertEqual([next_wrong_book(least, 1), next_right_book(least, 1), next_right_book(least, BIG + 2)], [BIG + 2, BIG + 1, None])
        both = book_code("undo", UNDO.replace("back b times", "if b < 3\nback b times\nend"), BookRules(str(BIG) + " - size"))
        start = (BIG + 1) // 2
        self.assertEqual([next_wrong_book(both, 1), next_wrong_book(both, BIG - 3), next_wrong_book(both, BIG - 2),
                          next_right_book(both, 1),
                          next_right_book(both, BIG)], [start, BIG - 3, None, BIG - 2, None])

    def test_rests(self):
        # Three times next and one more is the size only where the size leaves 1 by 3.
        code = book_code("fail", FAIL + "\na = mark + 1\nb = a + mark\nc = b + mark\nif c is size\nmark = size\nend")
        for start in (1, 10 ** 59):
            rest = start % 3
            self.assertEqual(next_wrong_book(code, start), start + (1 - rest) % 3)
            self.assertEqual(next_right_book(code, start), start + (1 if rest == 1 else 0))

    def test_great_sums(self):
        code = book_code("note", "a = size - " + str(BIG) + "\nif a is 5\nown = 0\nend\n" + NOTE)
        self.assertEqual([next_wrong_book(code, 1), next_wrong_book(code, BIG + 6), book_is_right(code, BIG + 5)], [BIG + 5, None, False])


class TestSlips(unittest.TestCase):
    """The slips of which the document tells, by sizes."""

    def test_until_the_mark(self):
        for keep, first in (("size", 1), ("size - 1", None), ("7", 7), ("9 - size", None), ("8 - size", 4)):
            code = book_code("fail", UNTIL, BookRules(keep))
            self.assertEqual(next_wrong_book(code, 1), first)
        code = book_code("fail", UNTIL, BookRules("7"))
        self.assertEqual([next_right_book(code, 1), least_book_case(code, "rows")], [8, (7, least_book_case(code, "rows")[1], (), (), 7)])

    def test_one_row_forgotten(self):
        for keep, first in (("size", 2), ("size - 1", 3), ("1", None), ("2", 2), ("5 - size", 3)):
            code = book_code("note", FORGETS_ONE, BookRules(keep))
            self.assertEqual(next_wrong_book(code, 1), first, keep)
            self.assertEqual(book_keeps(code, "rows"), True)

    def test_wrong_ends(self):
        for kind, text, kept in [("note", NOTE.replace("if own is keep", "if many is keep"), ("inside", "rows", "fields")),
                                 ("note", NOTE.replace("\nmore = 0", ""), ("inside", "rows", "full")), ("fail", "", ("inside", "full")),
                                 ("fail", "no", ("inside", "rows", "fields")), ("undo", "no", ("inside", "rows", "fields")),
                                 ("undo", UNDO.replace("if many is 0\nno\nend\n", ""), ("rows", "fields", "full")),
                                 ("redo", "quit", ("inside",)), ("redo", "again 1 times", ("inside",)),
                                 ("redo", REDO.replace("b = sealed next", "b = sealed mark"), ALL)]:
            self.assertEqual(book_kept(book_code(kind, text)), kept, (kind, text))

    def test_cases_exist(self):
        for kind in BOOK:
            self.assertLess(10, len(cases(WHOLE, kind, 3)))


if __name__ == "__main__":
    unittest.main()
