"""[14], [15], [16], [63]: page codes judged for all sizes."""

import random
import unittest

from heldplaces import pageverdicts
from heldplaces.errors import BadCount, BadKind, BadPromise, BadSize
from heldplaces.pagecodes import PageCode
from heldplaces.pageplay import play_page
from heldplaces.pagerules import PageRules
from heldplaces.pageverdicts import (
    least_page_case, next_page_break, next_passing, next_right_size, next_wrong_size, page_breaks, page_is_right,
    page_keeps, page_kept, passes, wrong_sizes)
from pagebrute import compare
from samples import ALL, EIGHT, PACK, PLAIN, PUT, SHORT, SHRINK, STRETCH, STRIKE, TWICE
from samples import pack_code, put_code, set_code, strike_code

NONE = [True, False, None, "3", 1.0, (3,), [], {}]
BIG = 10 ** 60


class TestExamples(unittest.TestCase):
    def test_examples(self):
        put, strike, short, twice = put_code(), strike_code(), put_code(SHORT), strike_code(TWICE)
        self.assertEqual([page_kept(put), page_kept(strike), next_wrong_size(put, 1)], [ALL, ALL, None])
        self.assertEqual([page_kept(short), next_wrong_size(short, 1), wrong_sizes(short, 20),
                          least_page_case(twice, "books")[0][0]], [("inside", "owed", "books", "full"), 9, 12, 13])
        self.assertEqual([page_breaks(short, "whole", 8), page_breaks(short, "whole", 9),
                          next_page_break(twice, "books", 1)], [False, True, 13])
        self.assertEqual([next_passing(put, 0, 1), next_passing(put, 2048, 1),
                          next_passing(put, 10 ** 30, 1) == 8 + 5 * (10 ** 30 + 1)], [13, 10253, True])

    def test_names_of_arguments(self):
        short = put_code(SHORT)
        self.assertFalse(page_keeps(code=short, promise="whole"))
        self.assertTrue(page_breaks(code=short, promise="whole", size=9))
        self.assertEqual(next_page_break(code=short, promise="whole", size=1), 9)
        self.assertEqual(next_passing(code=short, many=0, size=1), next_passing(short, 0, 1))
        self.assertEqual(passes(code=short, many=0, size=20), True)
        self.assertEqual(wrong_sizes(code=short, size=20), 12)


class TestErrors(unittest.TestCase):
    def test_bad_promises(self):
        code = put_code()
        for value in NONE + ["", "Whole", "right", ["whole"]]:
            for question in (page_keeps, least_page_case):
                with self.assertRaises(BadPromise) as caught:
                    question(code, value)
                self.assertIs(caught.exception.promise, value)
            for question in (page_breaks, next_page_break):
                with self.assertRaises(BadPromise):
                    question(code, value, 0)

    def test_bad_sizes(self):
        code = put_code()
        for value in NONE + [0, -1]:
            for question in (page_is_right, next_right_size, next_wrong_size, wrong_sizes):
                with self.assertRaises(BadSize) as caught:
                    question(code, value)
                self.assertIs(caught.exception.size, value)
            for question in (page_breaks, next_page_break):
                self.assertRaises(BadSize, question, code, "whole", value)
            for question in (passes, next_passing):
                self.assertRaises(BadSize, question, code, 0, value)

    def test_passing(self):
        for question in (passes, next_passing):
            for code in (strike_code(), set_code(), pack_code()):
                with self.assertRaises(BadKind) as caught:
                    question(code, -1, 0)
                self.assertEqual(caught.exception.kind, code.kind)
            for value in NONE + [-1]:
                with self.assertRaises(BadCount) as caught:
                    question(put_code(), value, 0)
                self.assertIs(caught.exception.many, value)


class TestAgainstPlays(unittest.TestCase):
    """The questions held against trying all right pages of small sizes."""

    RULES = [PageRules(0, 1, 1), PageRules(2, 2, 1), PageRules(1, 1, 2), PageRules(0, 2, 2, 7), PageRules(3, 1, 1, 6),
             PageRules(1, 2, 3)]
    SLIPS = {
        "put": ["", "b = b - slot\n", "if c < a\nno\nend\n", "pack\n", "low = low + holes\n", "\nlay low", "take next\n",
                "slots = slots + 1\n", "own.len = len\n", "holes = 0\n", "low = low - a\n"],
        "strike": ["", "clear own\n", "holes = holes + a\n", "low = low + a\n", "slots = slots - 1\n"],
        "set": ["", "clear own\n", "holes = holes + b\n", "pack\n", " + b", "low = low + holes\n", "low = low - a\n",
                "own.at = low\n"],
        "pack": ["", "pack\n", "low = low + holes\n", "\nholes = 0"],
    }
    TURNS = [("c < a", "c <= a"), ("b < a", "b <= a"), ("room len", "len"), ("room own.len", "own.len"),
             ("own is last", "not own is last"), ("lay low", "lay edge"), ("low = low - a", "low = low - len"),
             ("own.at is low", "low <= own.at"), ("low = low + holes", "low = low + holes + unit"),
             ("if there is empty\ntake", "if holes < 1\ntake"), ("own.at = low", "own.at = low + 1")]

    def check(self, kind, rules, text, top):
        code = PageCode(kind, rules, text)
        sizes = [size for size in range(1, top + 1)]
        self.assertEqual(compare(code, sizes), [], (kind, vars(rules), text))

    def whole_texts(self, kind):
        return {"put": [PUT], "strike": [STRIKE, SHRINK], "set": [STRETCH], "pack": [PACK]}[kind]

    def test_slips(self):
        for kind, slips in self.SLIPS.items():
            for k, slip in enumerate(slips):
                for text in self.whole_texts(kind):
                    if slip in text:
                        rules = self.RULES[k % len(self.RULES)]
                        self.check(kind, rules, text.replace(slip, "", 1), rules.head + rules.slot + 3)

    def test_turns(self):
        for k, (one, two) in enumerate(self.TURNS):
            for kind in self.SLIPS:
                for text in self.whole_texts(kind):
                    if one in text:
                        rules = self.RULES[k % len(self.RULES)]
                        self.check(kind, rules, text.replace(one, two, 1), rules.head + rules.slot + 3)

    def test_divisions(self):
        for kind, text in [
                ("put", "a = size - low // 3\nb = len + a // 2\nif a is b\nlay low\nquit\nend\nif b < 2\nno\nend"),
                ("strike", "a = own.at + own.len // 2\nlow = a\nb = low - holes // 4\nif b < 1\nclear own\nend"),
                ("set", "b = own.len // 2\nif not b is 1 and len < own.len\nlay own.at - b\nend\nown.len = len"),
                ("pack", "a = holes // 2\nlow = low + a\nif slots < a and not low is size\npack\nend\nholes = a")]:
            for rules in self.RULES:
                self.check(kind, rules, text, rules.head + rules.slot + 3)

    def test_some_texts(self):
        rng = random.Random(7)
        lines = {
            "put": ["take empty", "take next", "slots = slots + 1", "own.at = low", "own.len = len", "lay low", "no", "pack"],
            "strike": ["clear own", "slots = slots - 1", "own.at = low", "holes = holes + own.len", "pack", "low = own.at"],
            "set": ["clear own", "own.at = low", "own.len = len", "lay own.at", "no", "pack", "holes = low - edge"],
            "pack": ["pack", "low = low + holes", "holes = 0", "low = size - slots", "quit"],
        }
        tests = ["if low < edge + 1", "if holes < 2", "if low <= edge", "if slots is 1", "if not holes is 0 and low < 4"]
        made = 0
        while made < 120:
            kind = rng.choice(["put", "strike", "set", "pack"])
            rows = []
            for line in rng.sample(lines[kind], rng.randint(2, 5)):
                rows += [rng.choice(tests), line, "end"] if rng.random() < 0.4 else [line]
            try:
                PageCode(kind, PLAIN, "\n".join(rows))
            except ValueError:
                continue
            made += 1
            rules = rng.choice(self.RULES)
            self.check(kind, rules, "\n".join(rows), rules.head + rules.slot + 2)


class TestAgainstEachOther(unittest.TestCase):
    def codes(self):
        some = [(PUT, "b = b - slot\n"), (PUT, "pack\n"), (PUT, "if c < a\nno\nend\n")]
        for rules in (PLAIN, PageRules(3, 2, 2, 30), PageRules(0, 6, 8), PageRules(5, 3, 1, 25), PageRules(40, 1, 1, 20)):
            for text, slip in some:
                yield put_code(text.replace(slip, ""), rules)
            yield strike_code(TWICE, rules)
            yield pack_code("a = size // 5\nb = size - a\nb = b - a - 2 - slots\nif b is a\nlow = size\nend", rules)
            yield pack_code("pack\nlow = low + holes\nholes = 0\nif size is 24\nholes = 1\nend", rules)
            yield set_code(rules=rules)

    def test_questions(self):
        for code in self.codes():
            rules = code.rules
            used = [size for size in range(1, 60) if rules.in_use(size)]
            wrong = [size for size in used if any(page_breaks(code, promise, size) for promise in ALL)]
            for size in range(1, 40):
                self.assertEqual(page_is_right(code, size), size not in wrong)
                self.assertEqual(wrong_sizes(code, size), len([one for one in wrong if one <= size]))
                ahead = [one for one in wrong if one >= size]
                if ahead:
                    self.assertEqual(next_wrong_size(code, size), ahead[0])
                else:
                    self.assertIn(next_wrong_size(code, size), [None] + list(range(60, 200)))
                ahead = [one for one in used if one >= size and one not in wrong]
                if ahead:
                    self.assertEqual(next_right_size(code, size), ahead[0])
                for promise in ALL:
                    told = [one for one in used if one >= size and page_breaks(code, promise, one)]
                    if told:
                        self.assertEqual(next_page_break(code, promise, size), told[0])
            for promise in ALL:
                self.assertEqual(page_keeps(code, promise), next_page_break(code, promise, 1) is None)
                self.assertEqual(page_keeps(code, promise), least_page_case(code, promise) is None)
                self.assertEqual(page_keeps(code, promise), promise in page_kept(code))

    def test_passing(self):
        for rules in (PLAIN, EIGHT, PageRules(0, 1, 1, 12), PageRules(3, 2, 4)):
            for text in (PUT, SHORT, "take next", "take empty", "take next\nno", "if 8 < slots\ntake next\nend"):
                code = put_code(text, rules)
                for many in (0, 1, 2, 5, 9):
                    there = [size for size in range(1, 150) if passes(code, many, size)]
                    for size in (1, 10, 50, 100):
                        ahead = [one for one in there if one >= size]
                        if ahead:
                            self.assertEqual(next_passing(code, many, size), ahead[0])
                        else:
                            self.assertIn(next_passing(code, many, size), [None] + list(range(150, 400)))

    def test_plays_of_least_cases(self):
        for code in self.codes():
            for promise in ALL:
                case = least_page_case(code, promise)
                if case is not None:
                    self.assertEqual(case[0][0], next_page_break(code, promise, 1))
                    self.assertIn(promise, play_page(code, case[0], case[1]).broken)
                    self.assertTrue(case[1] is None or code.kind != "pack")


class TestGreatNumbers(unittest.TestCase):
    """Sizes and numbers of up to 60 figures, where the answer is known by hand."""

    def test_a_break_at_one_great_size(self):
        number = 10 ** 29 + 7
        code = pack_code(PACK + "\nif size is " + str(number) + "\nholes = 1\nend")
        self.assertEqual(page_kept(code), ("inside", "whole", "owed", "lawful", "full"))
        self.assertEqual([next_wrong_size(code, 1), next_wrong_size(code, number + 1)], [number, None])
        self.assertEqual([next_right_size(code, number), wrong_sizes(code, BIG), wrong_sizes(code, number - 1)],
                         [number + 1, 1, 0])
        self.assertEqual([page_is_right(code, number), page_is_right(code, number - 1)], [False, True])

    def test_a_break_from_a_great_size_on(self):
        number = 10 ** 29
        code = pack_code("if " + str(number) + " <= size\nholes = holes + 1\nend\n" + PACK, PageRules(8, 4, 16, BIG))
        self.assertEqual([next_wrong_size(code, 1), next_wrong_size(code, BIG)], [number, BIG])
        self.assertEqual(wrong_sizes(code, BIG), (BIG - number) // 16 + 1)
        self.assertEqual([next_right_size(code, number), next_right_size(code, 1)], [None, 16])

    def test_most(self):
        code = put_code(PUT, PageRules(8, 4, 1, BIG))
        self.assertEqual(page_kept(code), ("whole", "owed", "lawful", "books", "full"))
        self.assertEqual([next_wrong_size(code, 1), next_right_size(code, BIG), next_right_size(code, BIG + 1),
                          next_wrong_size(code, BIG + 2)], [BIG + 1, BIG, None, None])
        self.assertEqual([wrong_sizes(code, BIG), wrong_sizes(code, BIG + 9)], [0, 1])
        first = PUT.replace("\nlow = low - a\nown", "\nown").replace("end\nif there", "else\nlow = low - a\nend\nif there")
        whole = put_code(first.replace("low = low + holes", "low = low + holes - a"), PageRules(8, 4, 1, BIG))
        self.assertEqual([page_kept(whole), next_wrong_size(whole, 1), next_right_size(whole, BIG + 1)],
                         [ALL, None, BIG + 1])
        never = put_code(PUT.replace("if c < a\nno\nend\n", ""), PageRules(8, 4, 1, BIG))
        self.assertEqual(next_page_break(never, "inside", 1), 8)

    def test_each_so_many_th_size(self):
        code = pack_code("a = size // 3\nb = size - a\nb = b - a\nb = b - a\nif b is 2\nholes = holes + 1\nend\n" + PACK)
        self.assertEqual(page_kept(code), ("inside", "whole", "lawful", "books", "full"))
        wrong = [size for size in range(8, 60) if not page_is_right(code, size)]
        self.assertEqual(wrong, [size for size in range(8, 60) if size % 3 == 2])
        self.assertEqual(wrong_sizes(code, BIG), (BIG - 8) // 3 + 1)
        self.assertEqual(next_wrong_size(code, BIG), BIG + (2 - BIG) % 3)
        self.assertEqual(next_right_size(code, BIG + (2 - BIG) % 3), BIG + (2 - BIG) % 3 + 1)

    def test_passing(self):
        code = put_code(rules=PageRules(8, 4, 16))
        many = 10 ** 59
        self.assertEqual(next_passing(code, many, 1), -(-(8 + 4 * (many + 1)) // 16) * 16 + 16 * (many + 1))
        self.assertFalse(passes(put_code(rules=PageRules(8, 4, 1, 10 ** 9)), 10 ** 9, 10 ** 9 + 1))
        self.assertIsNone(next_passing(put_code(rules=PageRules(8, 4, 1, 10 ** 9)), 10 ** 9, 1))

    def test_great_heads(self):
        code = strike_code(TWICE, PageRules(BIG, 64, 16))
        self.assertEqual(next_page_break(code, "books", 1), -(-(BIG + 64) // 16) * 16 + 16)
        case = least_page_case(code, "books")
        self.assertEqual((case[0][0], len(case[0][2])), (-(-(BIG + 64) // 16) * 16 + 16, 1))
        self.assertEqual(wrong_sizes(code, BIG), 0)


class TestNoSizes(unittest.TestCase):
    def test_no_size_in_use(self):
        code = put_code(SHORT, PageRules(40, 1, 1, 20))
        self.assertEqual([page_kept(code), next_wrong_size(code, 1), next_right_size(code, 1), wrong_sizes(code, BIG)],
                         [ALL, None, None, 0])
        self.assertEqual([page_is_right(code, 30), least_page_case(code, "whole"), next_passing(code, 0, 1)],
                         [True, None, None])

    def test_answers_do_not_hang_on_what_was_asked_before(self):
        for _ in range(2):
            code = put_code(SHORT)
            self.assertEqual(next_right_size(code, 9), next_right_size(put_code(SHORT), 9))
            self.assertEqual(page_kept(code), page_kept(code))
            self.assertTrue(code == put_code(SHORT))
            pageverdicts.page_kept(code)
            self.assertEqual(least_page_case(code, "whole"), least_page_case(put_code(SHORT), "whole"))


if __name__ == "__main__":
    unittest.main()
