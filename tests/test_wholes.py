"""[63]: rows of whole numbers struck out exactly, and sets of numbers told by stretches."""

import random
import unittest
from itertools import product

from heldplaces.searching import Search, can_hold, found_stretches, search_rows, some_value
from heldplaces.stretches import count_taken, is_in, next_free, next_of, regions_of, simple_stretches


def holds(row, numbers):
    return sum([a * x for a, x in zip(row, numbers)]) + row[-1]


class TestRows(unittest.TestCase):
    def box(self, names, most):
        rows = []
        for at in range(names):
            for sign in (1, -1):
                rows.append(tuple([sign if k == at else 0 for k in range(names)]) + (most,))
        return rows

    def test_against_trying(self):
        rng = random.Random(5)
        for _ in range(150):
            names, most = rng.randint(1, 4), rng.choice([2, 4])
            rows, equals = self.box(names, most), []
            for _ in range(rng.randint(1, 4)):
                row = tuple([rng.choice([0, 0, 1, -1, 2, -2, 3, 5, -5, 7, -6, 8]) for _ in range(names)])
                (equals if rng.random() < 0.25 else rows).append(row + (rng.randint(-15, 15),))
            there = sorted({xs[0] for xs in product(range(-most, most + 1), repeat=names)
                            if all(holds(row, xs) >= 0 for row in rows) and all(holds(row, xs) == 0 for row in equals)})
            search = Search("all")
            search_rows(search, equals, rows)
            stretches = found_stretches(search)
            self.assertEqual([x for x in range(-9, 10) if is_in(stretches, x)], there, (equals, rows))
            self.assertEqual(can_hold(equals, rows), there != [])
            self.assertEqual(some_value(equals, rows, "least"), there[0] if there else None)
            self.assertIn(some_value(equals, rows, "one"), there if there else [None])

    def test_great_numbers(self):
        big = 10 ** 60
        rows = [(1, 0, -1), (-1, 3, 0), (1, -3, 0), (0, 1, -big)]
        self.assertEqual(some_value([], rows, "least"), 3 * big)
        self.assertFalse(can_hold([(2, 4, 1)], [(1, 0, 0)]))
        self.assertFalse(can_hold([(6 * big, 4 * big, big)], [(1, 0, 0)]))
        search = Search("all")
        search_rows(search, [(1, -7, -3)], [(1, 0, 0)])
        self.assertEqual(found_stretches(search), [(3, None, 7)])


class TestStretches(unittest.TestCase):
    def some(self, rng):
        found = []
        for _ in range(rng.randint(0, 5)):
            first, step = rng.randint(1, 30), rng.randint(1, 6)
            found.append((first, rng.choice([None, first + step * rng.randint(0, 8)]), step))
        return found

    def test_against_listing(self):
        rng = random.Random(6)
        for _ in range(300):
            stretches = self.some(rng)
            there = [x for x in range(1, 400) if any(x >= first and (x - first) % step == 0 and (last is None or x <= last)
                                                     for first, last, step in stretches)]
            regions = regions_of(simple_stretches(stretches))
            for number in (1, 2, 7, 30, 77, 100):
                self.assertEqual(count_taken(regions, number), len([x for x in there if x <= number]))
                self.assertEqual(is_in(stretches, number), number in there)
                ahead = [x for x in there if x >= number]
                self.assertEqual(next_of(stretches, number), ahead[0] if ahead else None)
                ahead = [x for x in range(number, 300) if x not in there]
                self.assertEqual(next_free(regions, number), ahead[0] if ahead else None)


if __name__ == "__main__":
    unittest.main()
