"""[41], [43], [49]: books, over whole histories."""

import random
import unittest

from bookbrute import Groups, cases, slipped
from heldplaces.bookcodes import BookCode
from heldplaces.bookplay import play_book
from heldplaces.bookrules import BookRules
from heldplaces.books import Book
from heldplaces.errors import BadCase, BadSize, Broken, HeldError, OtherKinds, OtherRules
from samples import BOOK, LESS, WHOLE, book_code, book_codes, pack_code, put_code
from storebrute import PlainBook

FIVE = ("note", "close", "fail", "undo", "redo")


def ask(book, word):
    return book.note("x") if word == "note" else getattr(book, word)()


class TestMaking(unittest.TestCase):
    def test_kinds(self):
        note, fail, undo, redo = book_codes()
        for codes in ([], [note], [note, fail, undo], [note, fail, redo, undo], [fail, note, undo, redo], [note, fail, undo, redo, redo],
                      [note, note, note, note], [note, fail, undo, None], [note, fail, undo, put_code()], ["note", "fail", "undo", "redo"],
                      (note, fail, undo), [book_code("note", rules=LESS), fail, undo, undo]):
            with self.assertRaises(OtherKinds) as caught:
                Book(codes, 0)
            self.assertEqual(caught.exception.part, "book")

    def test_rules_and_sizes(self):
        for kind in BOOK:
            codes = [book_code(one, None, LESS if one == kind else WHOLE) for one in BOOK]
            with self.assertRaises(OtherRules) as caught:
                Book(codes, 0)
            self.assertEqual(caught.exception.part, "book")
        for size in (0, -1, True, None, "3", 3.0, (3,), [], {}):
            with self.assertRaises(BadSize) as caught:
                Book(book_codes(), size)
            self.assertIs(caught.exception.size, size)
        self.assertRaises(BadSize, Book, book_codes(LESS), 1)
        self.assertRaises(BadSize, Book, book_codes(BookRules("9 - size")), 9)
        for book in (Book(book_codes(LESS), 2), Book(codes=tuple(book_codes()), size=2000)):
            self.assertEqual((book.told_fields(), book.broken), ((0, 0, 0, 0, 0), None))

    def test_example(self):
        book = Book(book_codes(), 3)
        rows = [book.note("p"), book.note("q"), book.close(), book.note("r"), book.fail(), book.undo(), book.redo(), book.redo()]
        self.assertEqual(rows, [True, True, None, True, ["r"], ["q", "p"], ["p", "q"], None])
        more = [book.note("s"), book.note("t"), book.told_fields(), book.close(), book.undo(), book.undo()]
        self.assertEqual(more, [True, True, (1, 2, 0, 2, 2), None, ["t", "s"], None])

    def test_any_values(self):
        book = Book(book_codes(), 5)
        things = [None, [1], {}, 0, ("a", 2)]
        for thing in things:
            self.assertIs(book.note(thing=thing), True)
        self.assertIs(book.note("more"), False)
        self.assertEqual(book.fail(), things[::-1])


class ListedBook:
    """[49]: a list of groups that forgets all undone groups at each call, and its oldest group for more than keep rows."""

    def __init__(self, keep):
        self.keep, self.done, self.own, self.more = keep, [], [], []

    def rows(self):
        return sum(map(len, self.done)) + len(self.own)

    def note(self, thing):
        if len(self.own) == self.keep:
            return False
        self.more = []
        while self.rows() >= self.keep:
            self.done.pop(0)
        self.own.append(thing)
        return True

    def close(self):
        self.done += [self.own] if self.own else []
        self.own = []

    def fail(self):
        rows, self.own = self.own[::-1], []
        return rows

    def undo(self):
        if self.own or not self.done:
            return None
        self.more.insert(0, self.done.pop())
        return self.more[0][::-1]

    def redo(self):
        if self.own or not self.more:
            return None
        self.done.append(self.more.pop(0))
        return list(self.done[-1])


class TestHistories(unittest.TestCase):
    def check(self, codes, size, steps, rng):
        book, listed = Book(codes, size), ListedBook(codes[0].rules.kept_rows(size))
        for k in range(steps):
            self.step(book, listed, size, rng.choice(("note", "note", "note", "close", "close", "fail", "undo", "undo", "redo")), k)

    def step(self, book, listed, size, word, thing):
        """Does one thing in both: the case behind it."""
        told = (book.note(thing), listed.note(thing)) if word == "note" else (getattr(book, word)(), getattr(listed, word)())
        self.assertEqual(told[0], told[1], (size, word))
        place, many, more, own, mark = book.told_fields()
        self.assertEqual((many, more, own, (place - mark) % size), (listed.rows(), sum(map(len, listed.more)), len(listed.own), own % size))
        return (size, place, tuple(map(len, listed.done)), tuple(map(len, listed.more)), len(listed.own))

    def test_right_codes(self):
        rng = random.Random(1)
        for keep in ("size", "size - 1", "3", "7 - size"):
            rules = BookRules(keep)
            for size in range(1, 9):
                if rules.in_use(size):
                    self.check(book_codes(rules), size, 400, rng)
        self.check(book_codes(), 50, 3000, rng)
        self.check(book_codes(), 2000, 3000, rng)

    def ahead(self, codes, case, word):
        """The case to which a case leads."""
        book, groups, listed = Book.book_at(codes, case), Groups(case), ListedBook(codes[0].rules.kept_rows(case[0]))
        things = iter(range(100))
        listed.done = [[next(things) for _ in group] for group in groups.done]
        listed.own = [next(things) for _ in groups.own]
        listed.more = [[next(things) for _ in group] for group in groups.more]
        return self.step(book, listed, case[0], word, "new")

    def test_each_case_comes_up(self):
        for rules, size in ((WHOLE, 1), (WHOLE, 4), (LESS, 4), (BookRules("2"), 3)):
            codes, found = book_codes(rules), {(size, 0, (), (), 0)}
            work = list(found)
            while work:
                case = work.pop()
                for word in FIVE:
                    one = self.ahead(codes, case, word)
                    work += [] if one in found else [one]
                    found.add(one)
            self.assertEqual(found, set(cases(rules, "note", size)))


class TestWrongCodes(unittest.TestCase):
    def test_rows_that_were_never_written(self):
        book = Book(book_codes(fail="back 3 times", redo="again 2 times", undo="back 1 times"), 4)
        self.assertEqual([book.note("p"), book.fail()], [True, ["p", None, None]])
        self.assertEqual(book.told_fields(), (2, 1, 0, 1, 0))
        self.assertEqual([book.undo(), book.redo()], [None, None])
        book = Book(book_codes(undo="back 1 times", redo="again 2 times"), 4)
        self.assertEqual([book.undo(), book.redo(), book.told_fields()], [[None], [None, None], (1, 0, 0, 0, 0)])

    def test_rows_written_elsewhere(self):
        book = Book(book_codes(note="a = 2\nwrite a\nown = 1", fail="back size times"), 3)
        self.assertEqual([book.note("p"), book.fail(), book.note("q"), book.fail()], [True, ["p", None, None], True, ["q", None, None]])

    def test_open_groups_are_left_alone(self):
        book = Book(book_codes(undo="next = size + 1", redo="next = size + 1"), 3)
        self.assertEqual([book.note("p"), book.undo(), book.redo(), book.broken, book.close(), book.undo(), book.broken],
                         [True, None, None, None, None, [], "undo"])

    def test_seals_stay(self):
        # A row that is not kept any more has its seal until something is written over it.
        book = Book(book_codes(redo="b = sealed next\nagain b times"), 3)
        for thing in "pq":
            book.note(thing)
        book.close()
        self.assertEqual([book.undo(), book.redo(), book.told_fields()], [["q", "p"], ["p", "q"], (2, 0, 2, 0, 0)])
        book = Book(book_codes(fail="own = 0\nback 2 times\nmark = next",
                               redo="b = sealed next\nagain b times\nmany = many + b\nmark = next"), 4)
        for thing in "pq":
            book.note(thing)
        book.close()
        self.assertEqual([book.fail(), book.note("r"), book.fail(), book.redo(), book.broken], [["q", "p"], True, ["r", None], [], "redo"])

    def test_seals_of_close(self):
        book = Book(book_codes(note="write next\nown = 3", undo="a = sealed next\nback a times"), 4)
        book.note("p")
        self.assertEqual([book.close(), book.told_fields(), book.undo()], [None, (0, 0, 0, 0, 0), []])
        self.assertEqual(book.broken, "undo")
        book = Book(book_codes(note="next = size\nown = 2"), 4)
        book.note("p")
        book.close()
        self.assertEqual(book.told_fields(), (4, 0, 0, 0, 4))
        book = Book(book_codes(note="own = 4\nmany = 4\nnext = 2", undo="a = next\na = wrap a - 1\nb = sealed a\nback b times\nown = 0"), 4)
        book.note("p")
        book.close()
        self.assertEqual(book.undo(), [None, None, None, None])

    def test_close_without_group(self):
        book = Book(book_codes(note="mark = 3"), 4)
        book.note("p")
        self.assertEqual([book.close(), book.told_fields()], [None, (0, 0, 0, 0, 3)])

    def test_refused_plays_keep_what_they_did(self):
        book = Book(book_codes(note="many = 2\nwrite next\nno", fail="back 1 times\nno", undo="more = 3\nno"), 4)
        self.assertEqual([book.note("p"), book.told_fields(), book.fail(), book.told_fields(), book.undo(), book.told_fields()],
                         [False, (0, 2, 0, 0, 0), None, (3, 2, 0, 0, 0), None, (3, 2, 3, 0, 0)])
        book = Book(book_codes(note="many = 2\nwrite next\nno", fail="back size times"), 2)
        book.note("p")
        self.assertEqual(book.fail(), [None, "p"])

    def test_beyond(self):
        for kind, text, told in [("note", "write next\nmany = 9", True), ("note", "many = 9", True),
                                 ("fail", "back 2 times\nmany = 9", [None, None]), ("fail", "many = 9", []),
                                 ("undo", "back 1 times\nmany = 9", [None]), ("undo", "a = sealed next", []),
                                 ("redo", "again 1 times\nmany = 9", [None]), ("redo", "a = wrap 20", [])]:
            book = Book(book_codes(**{kind: text}), 4)
            self.assertEqual((book.broken, ask(book, kind)), (None, told), text)
            self.assertEqual(book.broken, kind)
            fields = book.told_fields()
            for word in FIVE:
                with self.assertRaises(Broken) as caught:
                    ask(book, word)
                self.assertEqual(caught.exception.part, kind)
            self.assertEqual(book.told_fields(), fields)

    def test_beyond_with_an_open_group(self):
        book = Book(book_codes(note="own = 1\nmany = 9"), 4)
        book.note("p")
        self.assertEqual(book.told_fields(), (0, 0, 0, 1, 0))
        for word in FIVE:
            self.assertRaises(Broken, ask, book, word)

    def test_drawn_codes(self):
        rng = random.Random(4)
        for _ in range(150):
            codes = []
            for kind in BOOK:
                code = None
                while code is None:
                    try:
                        code = BookCode(kind, WHOLE, slipped(rng, kind) if rng.random() < 0.4 else BOOK[kind])
                    except HeldError:
                        pass
                codes.append(code)
            self.compare(codes, rng.randint(1, 6), rng)

    def compare(self, codes, size, rng):
        book, plain = Book(codes, size), PlainBook(codes, size)
        for k in range(40):
            if book.broken is not None:
                return
            word = rng.choice(("note", "note", "note", "close", "close", "fail", "undo", "redo"))
            if word == "note":
                self.assertEqual(book.note(k), plain.note(k))
            elif word == "close":
                self.assertEqual(book.close(), plain.close())
            else:
                self.assertEqual(getattr(book, word)(), plain.turn(word), (size, word, [code.text for code in codes]))
            self.assertEqual((book.told_fields(), book.broken), (plain.fields, plain.broken))


class TestBookAt(unittest.TestCase):
    def test_cases(self):
        for rules, size in ((WHOLE, 4), (LESS, 5), (BookRules("2"), 3)):
            for case in cases(rules, "note", size):
                self.check(book_codes(rules), case)

    def check(self, codes, case):
        groups = Groups(case)
        things = {place: k for k, place in enumerate([one for group in groups.done for one in group] + groups.own +
                                                     [one for group in groups.more for one in group])}
        for kind in ("fail", "undo", "redo"):
            book = Book.book_at(codes, case)
            self.assertEqual((book.told_fields(), book.broken), (groups.fields(), None))
            if kind == "fail" or case[4] == 0:
                play = play_book(codes[list(BOOK).index(kind)], case)
                told = [things[place] for place in play.back + play.again]
                self.assertEqual(getattr(book, kind)(), None if play.ended == "refused" else told, (case, kind))
                self.assertEqual(book.told_fields(), play.fields)
        book = Book.book_at(codes=codes, case=case)
        play = play_book(codes[0], case)
        self.assertEqual((book.note("new"), book.told_fields()), (play.ended == "done", play.fields))

    def test_all_groups(self):
        book = Book.book_at(book_codes(), (7, 5, (2, 1), (3,), 0))
        self.assertEqual([book.undo(), book.undo(), book.undo(), book.redo(), book.redo(), book.redo(), book.redo()],
                         [[2], [1, 0], None, [0, 1], [2], [3, 4, 5], None])

    def test_bad_cases(self):
        fail = book_code("fail")
        for case in (None, [4, 0, (), (), 0], (4, 4, (), (), 0), (4, 0, (5,), (), 0), (0, 0, (), (), 0), (4, 0, (), (1,), 1),
                     (4, 0, [], (), 0)):
            for codes in (book_codes(), [book_code("note"), fail], [book_code("note"), book_code("fail", None, LESS)] + book_codes()[2:]):
                with self.assertRaises(BadCase) as caught:
                    Book.book_at(codes, case)
                self.assertIs(caught.exception.case, case)
        case = (4, 0, (), (), 0)
        self.assertRaises(OtherKinds, Book.book_at, book_codes()[:3], case)
        self.assertRaises(OtherRules, Book.book_at, book_codes()[:3] + [book_code("redo", None, LESS)], case)
        self.assertRaises(OtherKinds, Book.book_at, [], case)
        self.assertRaises(OtherKinds, Book.book_at, [pack_code()] * 4, case)
        self.assertRaises(BadCase, Book.book_at, book_codes(LESS), (4, 0, (4,), (), 0))

    def test_own_rows(self):
        book = Book.book_at(book_codes(), (4, 1, (1,), (), 3))
        self.assertEqual([book.undo(), book.redo(), book.fail(), book.undo(), book.undo(), book.redo()],
                         [None, None, [3, 2, 1], [0], None, [0]])


if __name__ == "__main__":
    unittest.main()
