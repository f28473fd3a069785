"""[26], [29], [30]: plays of room texts, and which fits are told."""

import unittest

from heldplaces.errors import BadKind, BadNumber, BadSize
from heldplaces.pagerules import PageRules
from heldplaces.roomcodes import RoomCode, RoomText
from heldplaces.roomplay import RoomPlay, play_room, room_full, room_tells

PLAIN = PageRules(8, 4, 1)
EIGHT = PageRules(20, 6, 8, 103)
BY, UP = RoomText("class", "class = fit // 32"), RoomText("ask", "class = len + 31 // 32")
NONE = [True, False, None, "3", 1.0, (3,), [], -1]
BIG = 10 ** 60


def code_of(classes="", asks="", rules=PLAIN, top=50, **more):
    return RoomCode(rules, top, RoomText("class", classes), RoomText("ask", asks), **more)


def told(play):
    assert isinstance(play, RoomPlay)
    return (play.ended, play.number, play.is_looking)


class TestFull(unittest.TestCase):
    def test_full(self):
        self.assertEqual([room_full(PLAIN, size) for size in (8, 11, 12, 13, 100, BIG)], [0, 0, 0, 1, 88, BIG - 12])
        self.assertEqual([room_full(EIGHT, size) for size in (24, 32, 40, 104)], [0, 0, 8, 72])
        self.assertEqual(room_full(rules=PageRules(0, 1, 1), size=1), 0)

    def test_sizes_not_in_use(self):
        for rules, sizes in ((PLAIN, NONE + [0, 1, 7]), (EIGHT, NONE + [0, 8, 16, 25, 30, 112])):
            code = code_of(rules=rules)
            for size in sizes:
                for question in (lambda: room_full(rules, size), lambda: play_room(code, "class", size, None),
                                 lambda: play_room(code, "ask", size, None), lambda: room_tells(code, size, None, None)):
                    with self.assertRaises(BadSize) as caught:
                        question()
                    self.assertIs(caught.exception.size, size)


class TestPlays(unittest.TestCase):
    def test_examples(self):
        code, tight = RoomCode(PLAIN, 255, BY, UP, waste=31), RoomCode(PLAIN, 2, BY, UP)
        self.assertEqual([room_full(PLAIN, 100), play_room(code, "class", 100, 64).number,
                          play_room(code, "ask", 100, 65).number], [88, 2, 3])
        self.assertEqual(play_room(tight, "ask", 100, 65).ended, "beyond")

    def test_bad_kinds_and_numbers(self):
        code = code_of(rules=EIGHT)
        for kind in ("put", "", None, 1, ["ask"], True):
            with self.assertRaises(BadKind) as caught:
                play_room(code, kind, 1, None)
            self.assertIs(caught.exception.kind, kind)
        for number in NONE + [1, 7, 9, 80, 65, BIG]:
            with self.assertRaises(BadNumber) as caught:
                play_room(code, "class", 104, number)
            self.assertIs(caught.exception.number, number)
        for number in NONE + [0, 73, BIG]:
            self.assertRaises(BadNumber, play_room, code, "ask", 104, number)
        self.assertRaises(BadNumber, play_room, code, "ask", 24, 1)
        self.assertRaises(BadNumber, play_room, code, "class", 24, 8)

    def test_edges(self):
        code = code_of("class = fit", "class = len", EIGHT, 72)
        for fit in (0, 8, 72):
            self.assertEqual(told(play_room(code=code, kind="class", size=104, number=fit)), ("done", fit, False))
        for length in (1, 7, 71, 72):
            self.assertEqual(told(play_room(code, "ask", 104, length)), ("done", length, False))
        less = code_of("class = fit", "class = len", EIGHT, 71)
        self.assertEqual(told(play_room(less, "class", 104, 72)), ("beyond", None, False))
        self.assertEqual(told(play_room(less, "ask", 104, 72)), ("beyond", None, False))
        self.assertEqual(told(play_room(less, "ask", 104, 71)), ("done", 71, False))

    def play(self, asks, length, size=100, top=50):
        return told(play_room(code_of("", asks, top=top), "ask", size, length))

    def test_lines(self):
        self.assertEqual(self.play("", 5), ("done", 0, False))
        self.assertEqual(self.play("a = size - full - len\nb = top - a\nclass = b + a - 47", 5), ("done", 3, False))
        self.assertEqual(self.play("a = 4 - len // 2\nclass = a + 20", 9), ("done", 17, False))
        self.assertEqual(self.play("look\nquit\nclass = 3", 5), ("done", 0, True))
        self.assertEqual(self.play("if len < 5\nlook\nelse\nclass = 4\nend\nclass = class + 1", 4), ("done", 1, True))
        self.assertEqual(self.play("if len < 5\nlook\nelse\nclass = 4\nend\nclass = class + 1", 5), ("done", 5, False))
        self.assertEqual(self.play("if not len is 5 and 3 <= len\nclass = 1\nend", 3), ("done", 1, False))
        self.assertEqual(self.play("class = class + 2\nclass = class + 3", 3), ("done", 5, False))

    def test_bits(self):
        for number in (0, 1, 2, 3, 4, 7, 8, 2 ** 40 - 1, 2 ** 40):
            self.assertEqual(self.play("class = bits len - 1", number + 1, 2 ** 50), ("done", number.bit_length(), False))
        self.assertEqual(self.play("class = bits len - 2\nclass = 7", 1), ("beyond", None, False))
        self.assertEqual(self.play("class = bits len - 2", 2), ("done", 0, False))
        self.assertEqual(self.play("look\nclass = bits 0 - len", 2), ("beyond", None, False))

    def test_beyond(self):
        self.assertEqual(self.play("look\nclass = 0 - 1", 2), ("beyond", None, False))
        self.assertEqual(self.play("class = 51\nlook", 2), ("beyond", None, False))
        self.assertEqual(self.play("class = 51\nlook\nclass = 50", 2), ("done", 50, True))
        self.assertEqual(self.play("class = 0 - 1\nif class < 0\nclass = 0\nend", 2), ("done", 0, False))
        self.assertEqual(self.play("class = 1", 2, top=0), ("beyond", None, False))
        self.assertEqual(self.play("class = top", 2, top=10 ** 30 - 1), ("done", 10 ** 30 - 1, False))


class TestTells(unittest.TestCase):
    def test_examples(self):
        lazy = RoomCode(PLAIN, 255, BY, UP, fall=32)
        late = RoomCode(PLAIN, 255, BY, UP, 0, 50, "ahead")
        self.assertEqual([room_tells(lazy, 100, 88, 60), room_tells(lazy, 100, 88, 40), room_tells(lazy, 100, 40, 41)],
                         [None, 40, 41])
        self.assertEqual([room_tells(late, 100, 88, 60), room_tells(late, 100, 60, 88), room_tells(late, 100, 20, 88)],
                         [88, None, 20])

    def test_edges(self):
        for when in ("behind", "ahead"):
            code = code_of(fall=10, rise=20, when=when)
            for was, fit, is_told in [(50, 41, False), (50, 40, True), (50, 39, True), (50, 69, False), (50, 70, True),
                                      (50, 71, True), (50, 50, False), (0, 0, False), (88, 88, False), (88, 0, True)]:
                want = (fit if when == "behind" else was) if is_told else None
                self.assertEqual(room_tells(code=code, size=100, was=was, fit=fit), want)
            code = code_of(when=when)
            self.assertEqual(room_tells(code, 100, 7, 7), None)
            self.assertEqual(room_tells(code, 100, 7, 6), 6 if when == "behind" else 7)
            self.assertEqual(room_tells(code, 100, 0, 1), 1 if when == "behind" else 0)

    def test_bad_fits(self):
        code = code_of(rules=EIGHT)
        for value in NONE + [1, 7, 80, BIG]:
            for values in ((value, value), (value, 0), (0, value)):
                with self.assertRaises(BadNumber) as caught:
                    room_tells(code, 104, *values)
                self.assertIs(caught.exception.number, value)


if __name__ == "__main__":
    unittest.main()
