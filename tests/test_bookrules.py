"""[40]: book rules and the sizes in use."""

import unittest

from heldplaces.bookrules import BookRules
from heldplaces.errors import BadSize, BadSum

BIG = 10 ** 30 - 1


class TestSums(unittest.TestCase):
    def test_example(self):
        less = BookRules("size - 1")
        self.assertEqual([less.in_use(1), less.next_in_use(1), less.kept_rows(10 ** 30), BookRules("8 - size").next_in_use(1)],
                         [False, 2, 999999999999999999999999999999, 4])

    def test_right_sums(self):
        for text, kept in [("size", 7), ("0", 0), ("3", 3), ("size + 1", 8), ("1 + size", 8), ("2 - 1 + size", 8), ("2 + 3 - 1 + size", 11),
                           ("9 - size", 2), ("size - 1 - 2 - 3", 1), ("1 - 2 + size - 3", 3), ("5 - 1 - size", -3), ("1 - 2", -1),
                           (str(BIG), BIG), ("size - " + str(BIG), 7 - BIG), ("0 - size", -7), ("2 + 2", 4)]:
            self.assertEqual(BookRules(text).kept_rows(7), kept, text)
            self.assertEqual(BookRules(keep=text).keep, text)

    def test_what_is_no_sum(self):
        for value in ["", " ", "siz", "keep", "next", "many", "a", "size + size", "size - size", "1 + 2 + 3 + 4 + 5",
                      "size + 1 + 2 + 3 + 4", "size * 2", "size // 2", "size  + 1", " size", "size ", "size +", "+ size", "- 1", "-1",
                      "size+1", "size + -1", "01", "00", "1" + "0" * 30, "size - " + "9" * 31, "size\n", "size\n+ 1", "Size", "size 1",
                      "1.5", "size + + 1", "size - ", None, True, 3, 3.5, ["size"], ("size",), {"size": 1}, b"size", BookRules("size")]:
            with self.assertRaises(BadSum) as caught:
                BookRules(value)
            self.assertIs(caught.exception.text, value)
        self.assertEqual(BookRules("9" * 30).kept_rows(1), BIG)

    def test_equal(self):
        self.assertTrue(BookRules("size") == BookRules("size"))
        for other in (BookRules("size + 0"), BookRules("0 + size"), "size", None, True):
            self.assertFalse(BookRules("size") == other)


class TestSizes(unittest.TestCase):
    def test_small_sizes(self):
        for text in ["size", "size - 1", "size - 5", "size + 0", "size + 1", "0", "1", "4", "9 - size", "8 - size", "1 - size", "2 - size",
                     "3 - size", "0 - size", "0 - 3", "3 - 3 + size", "10 - 1 - size", "size - 7 + 3"]:
            rules = BookRules(text)
            used = [size for size in range(1, 30) if 1 <= rules.kept_rows(size) <= size]
            for size in range(1, 30):
                self.assertEqual(rules.in_use(size), size in used, (text, size))
                ahead = [one for one in used if one >= size]
                self.assertEqual(rules.next_in_use(size), ahead[0] if ahead else None, (text, size))

    def test_great_sizes(self):
        far, text = BookRules("size - " + str(BIG)), str(BIG)
        self.assertEqual([far.next_in_use(1), far.in_use(BIG), far.in_use(BIG + 1), far.kept_rows(10 ** 60)],
                         [10 ** 30, False, True, 10 ** 60 - BIG])
        some = BookRules(text + " - size")
        self.assertEqual([some.next_in_use(1), some.next_in_use(BIG - 1), some.next_in_use(BIG), some.in_use(BIG)],
                         [5 * 10 ** 29, BIG - 1, None, False])
        fixed = BookRules(text)
        self.assertEqual([fixed.next_in_use(1), fixed.next_in_use(10 ** 59), fixed.in_use(BIG - 1)], [BIG, 10 ** 59, False])
        self.assertEqual(BookRules(text + " + " + text + " + size").next_in_use(10 ** 40), None)

    def test_bad_sizes(self):
        rules = BookRules("size")
        for value in (0, -1, True, False, None, "3", 3.0, (3,), [3], {}):
            for method in (rules.kept_rows, rules.in_use, rules.next_in_use):
                with self.assertRaises(BadSize) as caught:
                    method(value)
                self.assertIs(caught.exception.size, value)
        self.assertEqual([rules.kept_rows(size=1), rules.in_use(size=1), rules.next_in_use(size=1)], [1, True, 1])


if __name__ == "__main__":
    unittest.main()
