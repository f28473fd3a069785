"""[65]: whether there are whole numbers for which rows hold, and the least one, however great the numbers are."""

import random
import unittest
from itertools import product

from heldplaces import points
from heldplaces.points import has_point, least_value
from heldplaces.reduction import reduced
from heldplaces.searching import some_value


def holds(row, numbers):
    return sum([a * x for a, x in zip(row, numbers)]) + row[-1]


def box(names, low, high):
    rows = []
    for at in range(names):
        unit = tuple([1 if k == at else 0 for k in range(names)])
        rows += [unit + (-low,), tuple([-one for one in unit]) + (high,)]
    return rows


class TestPoints(unittest.TestCase):
    def test_against_trying(self):
        rng = random.Random(11)
        for _ in range(300):
            names, most, top = rng.randint(1, 4), rng.choice([2, 4]), rng.choice([3, 8, 40])
            rows, equals = box(names, -most, most), []
            for _ in range(rng.randint(1, 4)):
                row = tuple([rng.choice([0, rng.randint(-top, top)]) for _ in range(names)]) + (rng.randint(-3 * top, 3 * top),)
                (equals if rng.random() < 0.2 else rows).append(row)
            there = sorted({xs[0] for xs in product(range(-most, most + 1), repeat=names)
                            if all(holds(row, xs) >= 0 for row in rows) and all(holds(row, xs) == 0 for row in equals)})
            self.assertEqual(has_point(equals, rows), there != [], (equals, rows))
            self.assertEqual(least_value(equals, rows), there[0] if there else None, (equals, rows))

    def test_without_ends(self):
        rng = random.Random(12)
        for _ in range(200):
            names, top = rng.randint(2, 4), rng.choice([8, 30])
            rows, equals = [(1,) + (0,) * (names - 1) + (rng.randint(-3, 3),)], []
            for _ in range(rng.randint(2, 5)):
                row = tuple([rng.choice([0, rng.randint(-top, top)]) for _ in range(names)]) + (rng.randint(-3 * top, 3 * top),)
                (equals if rng.random() < 0.1 else rows).append(row)
            want = some_value(equals, rows, "least")
            self.assertEqual(has_point(equals, rows), want is not None, (equals, rows))
            self.assertEqual(least_value(equals, rows), want, (equals, rows))

    def test_bodies_by_themselves(self):
        rng = random.Random(13)
        for _ in range(150):
            names = rng.randint(1, 4)
            rows = box(names, -3, 3)[:rng.randint(names, 2 * names)]
            for _ in range(rng.randint(1, 3)):
                rows.append(tuple([rng.randint(-20, 20) for _ in range(names)]) + (rng.randint(-40, 40),))
            kept = [(0,) + row for row in rows]
            self.assertEqual(points.has_point_open(kept, names + 1), some_value([], kept, "one") is not None, rows)

    def test_great_numbers(self):
        big, odd = 10 ** 30, 10 ** 29 + 7
        # x from 1 on with x * odd in the last hundredth below a multiple of big
        rows = [(1, 0, -1), (odd, -big, big // 100), (-odd, big, -1)]
        found = least_value([], rows)
        self.assertTrue(-big // 100 <= odd * found % big - big < 0)
        self.assertFalse(has_point([], rows + [(-1, 0, found - 1)]))
        self.assertEqual(least_value([(odd, -big, -1)], [(1, 0, 0)]), pow(odd, -1, big))
        self.assertFalse(has_point([(6 * big, 4 * big, big + 1)], [(1, 0, 0)]))
        for number in (odd, 3 * big + 1):
            rows = box(4, 0, 10 ** 8)
            self.assertEqual(has_point([(1, 10 ** 9, 10 ** 18, 10 ** 27, -number)], rows), number % 10 ** 9 <= 10 ** 8)

    def test_reduced(self):
        rng = random.Random(14)
        for _ in range(60):
            many = rng.randint(1, 4)
            rows = [[rng.randint(-10 ** 6, 10 ** 6) for _ in range(many + 1)] for _ in range(many)]
            found = reduced(rows)
            news = [[sum(c * row[k] for c, row in zip(one, rows)) for k in range(many + 1)] for one in found]
            self.assertLessEqual(sum(x * x for x in news[0]), 2 ** many * min(sum(x * x for x in row) for row in rows))
        self.assertIsNone(reduced([[1, 2], [2, 4]]))


if __name__ == "__main__":
    unittest.main()
