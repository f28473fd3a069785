"""[31], [67], [68]: room codes judged for all sizes."""

import random
import unittest

from heldplaces.errors import BadPromise, BadSize, HeldError
from heldplaces.pagerules import PageRules
from heldplaces.roomcodes import RoomCode, RoomText
from heldplaces.roomverdicts import room_case, room_keeps, room_kept, room_next_right, room_next_wrong
from roombrute import PROMISES, broken, is_case

PLAIN = PageRules(8, 4, 1)
BY, UP = RoomText("class", "class = fit // 32"), RoomText("ask", "class = len + 31 // 32")
NONE = [True, False, None, "3", 1.0, (3,), [], {}]
BIG = 10 ** 59


def code_of(classes, asks, rules=PLAIN, top=255, **more):
    return RoomCode(rules, top, RoomText("class", classes), RoomText("ask", asks), **more)


class TestExamples(unittest.TestCase):
    def test_examples(self):
        code, lazy = RoomCode(PLAIN, 255, BY, UP, waste=31), RoomCode(PLAIN, 255, BY, UP, fall=32)
        late = RoomCode(PLAIN, 255, BY, UP, 0, 50, "ahead")
        self.assertEqual([room_kept(code), room_next_wrong(code, "inside", 0), room_next_wrong(code, "whole", 0),
                          room_next_right(code, "whole", 13)], [("safe", "found"), 8173, 13, 44])
        down = RoomCode(PLAIN, 255, BY, RoomText("ask", "class = len // 32"))
        self.assertEqual([room_case(down, "safe"), room_keeps(lazy, "safe"), room_next_wrong(lazy, "safe", 0),
                          room_next_wrong(late, "safe", 0)], [(13, 0, 0, 1), False, 44, 44])
        twos = code_of("class = bits fit", "a = len - 1\nclass = bits a\nclass = class + 1", top=40)
        self.assertEqual([room_keeps(twos, "safe"), room_next_wrong(twos, "whole", 0), room_next_right(twos, "whole", 17),
                          room_next_wrong(twos, "inside", 0)], [True, 15, 20, 549755813901])

    def test_names_of_arguments(self):
        code = RoomCode(PLAIN, 255, BY, UP)
        self.assertFalse(room_keeps(code=code, promise="whole"))
        self.assertEqual(room_kept(code=code), ("safe",))
        self.assertEqual(room_next_wrong(code=code, promise="whole", size=0), 13)
        self.assertEqual(room_next_right(code=code, promise="whole", size=0), 8)
        self.assertEqual(room_case(code=code, promise="whole")[0], 13)


class TestErrors(unittest.TestCase):
    def test_bad_values(self):
        code = RoomCode(PLAIN, 255, BY, UP)
        for value in NONE + ["", "Safe", "own", ["safe"]]:
            for question in (room_keeps, room_case):
                with self.assertRaises(BadPromise) as caught:
                    question(code, value)
                self.assertIs(caught.exception.promise, value)
            for question in (room_next_wrong, room_next_right):
                self.assertRaises(BadPromise, question, code, value, -1)
        for value in NONE + [-1]:
            for question in (room_next_wrong, room_next_right):
                with self.assertRaises(BadSize) as caught:
                    question(code, "safe", value)
                self.assertIs(caught.exception.size, value)
        self.assertEqual(room_next_right(code, "safe", 0), 8)


class TestAgainstTrying(unittest.TestCase):
    """The questions held against all sizes up to some bound, all fits, told fits to which rows of fits lead, and lengths."""

    def check(self, code, top):
        sizes = [size for size in range(1, top + 1) if code.rules.in_use(size)]
        table = {size: broken(code, size) for size in sizes}
        told = (vars(code.rules), code.top, code.classes.text, code.asks.text, code.fall, code.rise, code.when, code.waste)
        for promise in PROMISES:
            wrong = [size for size in sizes if promise in table[size]]
            case, keeps = room_case(code, promise), room_keeps(code, promise)
            self.assertEqual(case is None, keeps, told)
            self.assertEqual(promise in room_kept(code), keeps, told)
            if case is not None and case[0] < top + 60:
                self.assertTrue(is_case(code, promise, case), (told, case))
            self.assertEqual(None if case is None or case[0] > top else case[0], wrong[0] if wrong else None, told)
            for size in range(0, top + 1):
                for question, some in ((room_next_wrong, wrong), (room_next_right, [s for s in sizes if s not in wrong])):
                    found, ahead = question(code, promise, size), [one for one in some if one >= size]
                    self.assertEqual(None if found is None or found > top else found, ahead[0] if ahead else None,
                                     (told, promise, size))

    CLASSES = ["class = fit // 4", "class = bits fit", "class = fit", "a = fit // 4\nif a < 3\nclass = a\nelse\nclass = 3\nend",
               "class = bits fit\nif 3 < class\nclass = class - 1\nend", "class = full - fit", "class = fit + 1 // 8"]
    ASKS = ["class = len + 3 // 4", "class = len // 4", "a = len - 1\nclass = bits a\nclass = class + 1", "class = len\nlook",
            "a = len + 3 // 4\nif a < 3\nclass = a\nelse\nclass = 3\nlook\nend", "class = bits len\nif class is 2\nlook\nend",
            "class = len + 7 // 8", "class = bits len - 2"]

    def test_changes(self):
        changes = [(0, 0), (1, 1), (2, 0), (0, 2), (4, 4), (5, 3), (3, 9), (20, 20)]
        rng = random.Random(1)
        for unit in (1, 2, 4):
            for fall, rise in changes:
                for when in ("behind", "ahead"):
                    rules = PageRules(rng.choice([0, 3]), rng.choice([1, 2]), unit)
                    for _ in range(2):
                        code = code_of(rng.choice(self.CLASSES), rng.choice(self.ASKS), rules, rng.choice([2, 4, 60]), fall=fall,
                                       rise=rise, when=when, waste=rng.choice([0, 0, 1, 3, 8]))
                        self.check(code, 11 * unit + rules.head + rules.slot)

    def test_pairs_of_texts(self):
        for k, classes in enumerate(self.CLASSES):
            for j, asks in enumerate(self.ASKS):
                rules = [PLAIN, PageRules(1, 1, 2), PageRules(0, 2, 1, 9), PageRules(40, 1, 1, 20)][(k + j) % 4]
                self.check(code_of(classes, asks, rules, [5, 3, 64][j % 3], waste=j % 3), 22)

    def some_sum(self, rng, names):
        words = rng.sample(names + [str(rng.randint(0, 9))], rng.randint(1, 3))
        return words[0] + "".join(rng.choice([" + ", " - "]) + word for word in words[1:])

    def some_lines(self, rng, names, unit, depth):
        rows = []
        for _ in range(rng.randint(1, 3)):
            kind = rng.randint(0, 6)
            if kind < 2:
                rows.append(rng.choice(["class", "a", "b"]) + " = " + self.some_sum(rng, names))
            elif kind == 2:
                rows.append(rng.choice(["class", "a"]) + " = " + self.some_sum(rng, names) + " // " + str(2 * unit))
            elif kind == 3:
                rows.append("class = bits " + self.some_sum(rng, names[:2] + names[4:]))
            elif kind == 4 and "len" in names:
                rows.append("look")
            elif depth < 2:
                sides = rng.sample(names + ["top", str(rng.randint(0, 12))], 2)
                rows.append("if " + rng.choice(["", "not "]) + sides[0] + rng.choice([" < ", " <= ", " is "]) + sides[1])
                rows += self.some_lines(rng, names, unit, depth + 1)
                if rng.random() < 0.5:
                    rows += ["else"] + self.some_lines(rng, names, unit, depth + 1)
                rows.append("end")
        return rows

    def test_some_texts(self):
        rng = random.Random(2)
        made = 0
        while made < 60:
            unit = rng.choice([1, 1, 2, 3])
            rules = PageRules(rng.choice([0, 2]), rng.choice([1, 3]), unit, rng.choice([None, None, 12]))
            names = ["size", "full", "a", "b", "class"]
            try:
                code = code_of("\n".join(self.some_lines(rng, names + ["fit"], unit, 0)),
                               "\n".join(self.some_lines(rng, names + ["len"], unit, 0)), rules, rng.choice([2, 5, 40]),
                               fall=rng.choice([0, 1, unit, 2 * unit, 5]), rise=rng.choice([0, 1, unit, 2 * unit, 5]),
                               when=rng.choice(["behind", "ahead"]), waste=rng.choice([0, 0, 2]))
            except HeldError:
                continue
            made += 1
            self.check(code, 10 * unit + 5)


class TestGreatNumbers(unittest.TestCase):
    """Sizes of up to 60 figures, where the answer is known by hand."""

    def test_whole(self):
        code = code_of("class = fit // 256", "class = len + 255 // 256", top=10 ** 30 - 1)
        self.assertEqual(room_kept(code), ("safe",))
        for number in (10 ** 31, 10 ** 31 + 77):
            rest = (number - 12) % 256
            self.assertEqual(room_next_right(code, "whole", number), number + -rest % 256)
            self.assertEqual(room_next_wrong(code, "whole", number - rest), number - rest + 1)
        self.assertEqual(room_next_wrong(code, "inside", 0), 12 + 256 * (10 ** 30 - 1) + 1)
        self.assertEqual(room_next_wrong(code, "found", 0), 13)
        self.assertEqual(room_next_wrong(code, "found", BIG), BIG)
        self.assertEqual(room_next_right(code, "found", 13), None)
        # Beyond top, full is not asked about.
        self.assertEqual(room_next_wrong(code, "whole", BIG), None)

    def test_waste(self):
        for number in (10 ** 29, 10 ** 30 - 1):
            code = code_of("class = 0", "class = 1", top=1, waste=number)
            self.assertEqual(room_kept(code), ("inside", "safe"))
            self.assertEqual(room_next_wrong(code, "found", 0), 12 + number + 1)
            size, fit, told, length = room_case(code, "found")
            self.assertEqual((size, fit, length), (13 + number, number + 1, 1))
            self.assertIn(told, range(0, number + 2))

    def test_one_great_size(self):
        number = 10 ** 29 + 3
        code = code_of("if size is " + str(number) + "\nclass = 0\nelse\nclass = fit\nend", "class = len", top=10 ** 30 - 1)
        self.assertEqual([room_keeps(code, "safe"), room_keeps(code, "found"), room_keeps(code, "whole")], [True, False, False])
        for promise in ("found", "whole"):
            self.assertEqual([room_next_wrong(code, promise, 0), room_next_wrong(code, promise, number + 1),
                              room_next_right(code, promise, number), room_next_right(code, promise, BIG)],
                             [number, None, number + 1, BIG])
        self.assertEqual(room_case(code, "whole")[:3], (number, number - 12, number - 12))

    def test_fall(self):
        number = 10 ** 29
        code = code_of("class = fit", "class = len", top=10 ** 30 - 1, fall=number)
        self.assertEqual(room_kept(code), ("found", "whole"))
        self.assertEqual([room_next_wrong(code, "safe", 0), room_case(code, "safe")[0]], [13, 13])
        code = code_of("class = fit", "class = len", PageRules(8, 4, 16), 10 ** 30 - 1, rise=number)
        self.assertEqual(room_kept(code), ("safe", "whole"))
        self.assertEqual(room_next_wrong(code, "found", 0), 32)
        # A fall to 0 is told, and a rise by less than number is not.
        self.assertEqual(room_case(code, "found")[:3], (32, 16, 0))

    def test_ahead(self):
        number = 10 ** 29
        code = code_of("class = fit", "class = len", top=10 ** 30 - 1, fall=number, rise=0, when="ahead")
        self.assertEqual(room_next_wrong(code, "safe", 0), 13)
        code = code_of("class = 7\nif fit is " + str(number) + "\nclass = fit\nend", "class = 6\nif len is " + str(number - 1) +
                       "\nclass = 8\nend", top=10 ** 30 - 1, when="behind", waste=0)
        self.assertEqual(room_next_wrong(code, "safe", 0), 13)
        self.assertEqual(room_next_wrong(code, "whole", 0), 12 + number - 1)
        self.assertEqual(room_next_right(code, "whole", 12 + number), 12 + number)
        self.assertEqual(room_next_right(code, "whole", 12 + number + 1), None)

    def test_bits(self):
        code = code_of("class = bits fit", "class = bits len", top=64)
        self.assertEqual(room_kept(code), ("found", "whole"))
        self.assertEqual([room_next_wrong(code, "inside", 0), room_next_wrong(code, "safe", 0)], [12 + 2 ** 64, 13 + 2])
        self.assertEqual(room_next_wrong(code_of("class = bits fit", "class = bits len", PageRules(8, 4, 16), 64), "inside", 0),
                         2 ** 64 + 16)
        even = code_of("class = bits fit\nclass = class + 99 - 90", "a = len - 1\nclass = bits a\nclass = class + 10", top=64)
        self.assertEqual(room_kept(even), ("safe",))
        self.assertEqual(room_next_wrong(even, "inside", 0), 12 + 2 ** 54 + 1)

    def test_most(self):
        rules = PageRules(8, 4, 1, BIG)
        code = code_of("class = fit", "class = len", rules, 10 ** 30 - 1)
        self.assertEqual([room_next_wrong(code, "inside", BIG), room_next_wrong(code, "inside", BIG + 2),
                          room_next_right(code, "safe", BIG + 1), room_next_right(code, "safe", BIG + 2)],
                         [BIG, None, BIG + 1, None])

    def test_great_heads(self):
        rules = PageRules(BIG, 64, 16)
        code = code_of("class = 0", "class = 1", rules, 1)
        start = -(-(BIG + 64) // 16) * 16 + 16
        self.assertEqual([room_next_wrong(code, "whole", 0), room_next_right(code, "whole", 0), room_next_right(code, "whole", start)],
                         [start, -(-BIG // 16) * 16, None])
        self.assertEqual(room_case(code, "whole"), (start, 16, 16, room_case(code, "whole")[3]))
        self.assertIn(room_case(code, "whole")[3], range(1, 17))


if __name__ == "__main__":
    unittest.main()
