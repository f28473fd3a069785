"""[6]: page rules, the room of a record, sizes in use."""

import unittest

from heldplaces.errors import BadRule, BadSize
from heldplaces.pagerules import PageRules

NONE = [True, False, None, "4", b"4", 1.0, (1,), [1], {}]


class TestPageRules(unittest.TestCase):
    def rule(self, *values):
        with self.assertRaises(BadRule) as caught:
            PageRules(*values)
        return caught.exception.what

    def test_example(self):
        eight = PageRules(20, 6, 8, 65535)
        self.assertEqual([eight.room(1), eight.room(8), eight.in_use(24), eight.in_use(30),
                          eight.next_in_use(1), eight.next_in_use(65537)], [8, 8, True, False, 24, None])

    def test_least_and_greatest(self):
        for values in [(0, 1, 1, 1), (10 ** 60, 64, 16, 10 ** 60), (0, 1, 1, None), (0, 1, 1)]:
            rules = PageRules(*values)
            self.assertEqual((rules.head, rules.slot, rules.unit, rules.most), (tuple(values) + (None,))[:4])
        named = PageRules(most=9, unit=2, slot=3, head=4)
        self.assertEqual((named.head, named.slot, named.unit, named.most), (4, 3, 2, 9))

    def test_one_beyond(self):
        self.assertEqual(self.rule(-1, 4, 1), "head")
        self.assertEqual(self.rule(8, 0, 1), "slot")
        self.assertEqual(self.rule(8, 65, 1), "slot")
        self.assertEqual(self.rule(8, 4, 0), "unit")
        self.assertEqual(self.rule(8, 4, 17), "unit")
        self.assertEqual(self.rule(8, 4, 1, 0), "most")

    def test_other_kinds(self):
        for value in NONE:
            self.assertEqual(self.rule(value, 4, 1), "head")
            self.assertEqual(self.rule(8, value, 1), "slot")
            self.assertEqual(self.rule(8, 4, value), "unit")
            if value is not None:
                self.assertEqual(self.rule(8, 4, 1, value), "most")

    def test_first_one_is_told(self):
        self.assertEqual(self.rule(None, None, None, "x"), "head")
        self.assertEqual(self.rule(0, 65, 17, 0), "slot")
        self.assertEqual(self.rule(0, 64, 17, 0), "unit")
        self.assertEqual(self.rule(0, 64, 16, 0), "most")

    def test_rooms(self):
        for unit in range(1, 17):
            rules = PageRules(0, 1, unit)
            for length in range(1, 50):
                room = rules.room(length)
                self.assertTrue(room % unit == 0 and length <= room < length + unit)
        self.assertEqual(PageRules(0, 1, 16).room(10 ** 60 + 1), 10 ** 60 + 16)

    def test_sizes_in_use(self):
        for rules in (PageRules(0, 1, 1), PageRules(5, 1, 3), PageRules(7, 1, 4, 20), PageRules(7, 1, 4, 19),
                      PageRules(7, 1, 4, 2), PageRules(0, 1, 16, 3), PageRules(0, 1, 1, 1)):
            used = [size for size in range(1, 60) if size % rules.unit == 0 and size >= rules.head
                    and (rules.most is None or size <= rules.most + 1)]
            for size in range(1, 40):
                self.assertEqual(rules.in_use(size), size in used)
                ahead = [one for one in used if one >= size]
                self.assertEqual(rules.next_in_use(size), ahead[0] if ahead else None)

    def test_most_lets_one_size_more(self):
        rules = PageRules(0, 1, 1, 10)
        self.assertEqual([rules.in_use(11), rules.in_use(12), rules.next_in_use(12)], [True, False, None])
        self.assertEqual(PageRules(0, 1, 16).next_in_use(10 ** 60 + 1), 10 ** 60 + 16)

    def test_bad_sizes(self):
        rules = PageRules(0, 1, 1)
        for value in NONE + [0, -1, -10 ** 40]:
            for question in (rules.in_use, rules.next_in_use, rules.room):
                with self.assertRaises(BadSize) as caught:
                    question(value)
                self.assertEqual(caught.exception.size, value)

    def test_equal(self):
        rules = PageRules(8, 4, 1, 9)
        self.assertTrue(rules == PageRules(8, 4, 1, 9))
        for other in (PageRules(7, 4, 1, 9), PageRules(8, 5, 1, 9), PageRules(8, 4, 2, 9), PageRules(8, 4, 1),
                      (8, 4, 1, 9), None, "x", 8):
            self.assertFalse(rules == other)
            self.assertTrue(rules != other)


if __name__ == "__main__":
    unittest.main()
