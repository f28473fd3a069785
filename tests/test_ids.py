"""[17], [18], [22], [23], [64]: ids, gives, frees, looks and lives."""

import random
import unittest

from heldplaces.errors import BadNumber, Beyond, OtherFactors, OtherKinds
from heldplaces.idcodes import IdCode
from heldplaces.ids import Ids
from samples import free_code, give_code, look_code

NONE = [True, False, None, "3", 1.0, (3,), [], -1]
REFUSE = IdCode("look", "refuse")
OLD = "if stamp is 4095\nretire\nend"
BIG = 10 ** 60


def ids_of(give, free):
    return Ids(IdCode("give", give), IdCode("free", free), REFUSE)


class TestMaking(unittest.TestCase):
    def test_kinds(self):
        give, free, look = give_code(), free_code(), look_code()
        for codes in ((free, free, look), (give, give, look), (give, free, give), (look, free, give), (free, give, look)):
            with self.assertRaises(OtherKinds) as caught:
                Ids(*codes, none="x")
            self.assertEqual(caught.exception.part, "ids")

    def test_factors(self):
        for give, free, look in [("a = a * 2", "a = a * 3", ""), ("a = a * 2", "", "a = a mod 3"),
                                 ("", "stamp = stamp mod 6", "a = a & 3"), ("stamp = stamp & 1", "a = a // 5", "")]:
            codes = IdCode("give", give), IdCode("free", free), IdCode("look", look)
            self.assertRaises(OtherFactors, Ids, *codes, "x")
        Ids(IdCode("give", "a = a * 2"), IdCode("free", "a = a * 6"), IdCode("look", "a = a * 30"))

    def test_none(self):
        for none in (True, None, "0", 1.5, (0,)):
            with self.assertRaises(BadNumber) as caught:
                Ids(give_code(), free_code(), look_code(), none)
            self.assertIs(caught.exception.number, none)
        for none in (0, -1, BIG, -BIG):
            self.assertEqual(Ids(give_code(), free_code(), look_code(), none).none, none)

    def test_order_of_errors(self):
        two, three = IdCode("give", "a = a * 2"), IdCode("free", "a = a * 3")
        self.assertRaises(OtherKinds, Ids, two, two, three, "x")
        self.assertRaises(OtherFactors, Ids, two, three, REFUSE, "x")
        self.assertRaises(BadNumber, Ids, two, free_code(), REFUSE, "x")

    def test_attributes_and_equal(self):
        give, free, look = give_code(), free_code(), look_code()
        ids = Ids(look=look, free=free, give=give)
        self.assertEqual((ids.give, ids.free, ids.look, ids.none), (give, free, look, 0))
        self.assertTrue(ids == Ids(give_code(), free_code(), look_code(), 0))
        for other in (Ids(give, free, look, 1), Ids(IdCode("give", ""), free, look), Ids(give, free_code("quit"), look),
                      Ids(give, free, REFUSE), None, (give, free, look, 0), give):
            self.assertFalse(ids == other)


class TestPlays(unittest.TestCase):
    def test_examples(self):
        one, three = Ids(give_code(), free_code(), look_code()), Ids(give_code(), free_code(OLD), look_code())
        self.assertEqual(
            [one.stamp_at(0, 0, 0), one.stamp_at(5, 7, 4095), one.stamp_at(0, 0, 10 ** 40), one.id_at(2, 3, 0),
             three.lives_of(0, 0), one.lives_of(0, 0)], [1, 0, 1, 4294969347, 4095, None])
        self.assertEqual(
            [one.answer(4294969347, {(2, 3): (1, True)}), one.answer(4294969347, {(2, 3): (2, True)}),
             one.given(2, 3, 4095), three.brought(0, 0, 4095)], [(2, 3), None, (2051, 0), (4095, True)])

    def test_given(self):
        def word(text, page=5, slot=3, stamp=7):
            return ids_of(text, "").given(page, slot, stamp)
        self.assertEqual(word(""), (0, 7))
        self.assertEqual(word("word = page * 10\nword = word + slot"), (53, 7))
        self.assertEqual(word("word = stamp\nstamp = stamp + 12\nword = word + stamp"), (26, 19))
        self.assertEqual(word("word = slot - page // 2"), (-1, 7))
        self.assertEqual(word("word = slot - page mod 3"), (1, 7))
        self.assertEqual(word("word = page << 90"), (5 * 2 ** 90, 7))
        self.assertEqual(word("word = page >> 1\nword = word + 0 - 9 >> 2"), (-2, 7))
        self.assertEqual(word("word = 0 - page & 7"), (3, 7))
        self.assertEqual(word("if page < 5\nword = 1\nquit\nend\nif 3 <= slot and not stamp is 8\nword = 2\nelse\nword = 3\nend"),
                         (2, 7))
        self.assertEqual(word("stamp = 4\nquit\nstamp = 5"), (0, 4))
        self.assertEqual(word("word = page\na = a + 1\nb = a - c\nword = b", BIG), (1, 7))
        self.assertEqual(word("stamp = stamp mod 4\nstamp = stamp & 1\nword = stamp"), (1, 1))

    def test_brought(self):
        self.assertEqual(ids_of("", "").brought(1, 2, 3), (3, False))
        self.assertEqual(ids_of("", "retire\nstamp = stamp + 2\nquit\nstamp = 0").brought(1, 2, 3), (5, True))
        self.assertEqual(ids_of("", "if stamp < 3\nretire\nend").brought(1, 2, 3), (3, False))
        self.assertEqual(ids_of("", "if page is 1 and 2 is slot\nstamp = 0\nend").brought(1, 2, 3), (0, False))

    def look(self, text, word, places):
        return Ids(IdCode("give", ""), free_code(), IdCode("look", text)).answer(word, places)

    def test_answers(self):
        places = {(0, 0): (4, True), (0, 1): (6, False), (1, 0): (8, True)}
        whole = "page = word // 10\nslot = word mod 10\nif lent\naccept\nend"
        self.assertEqual([self.look(whole, word, places) for word in (0, 1, 10, 11, 12, -1)],
                         [(0, 0), None, (1, 0), None, None, None])
        self.assertEqual(self.look("page = 0\nslot = 1\naccept", 3, places), (0, 1))
        self.assertEqual(self.look("page = 0\nslot = word\nif stamp is 6\naccept\nend", 1, places), (0, 1))
        self.assertEqual(self.look("page = 0\nslot = word\nif stamp is 6\naccept\nend", 0, places), None)
        self.assertEqual(self.look("refuse\naccept", 0, places), None)
        self.assertEqual(self.look("", 0, places), None)
        self.assertEqual(self.look("if page is slot and page < 0\nrefuse\nend\naccept", 0, places), None)
        self.assertEqual(self.look("if not lent\nrefuse\nend\naccept", 0, places), None)

    def test_beyond(self):
        places = {(0, 0): (4, True)}
        for text in ("accept", "a = stamp", "if stamp < 1\nend", "page = 0\nslot = 1\naccept", "if 1 < 2 and a is stamp\nend",
                     "page = 0\nslot = 0 - 1\na = 1 + stamp * 2\nrefuse"):
            self.assertRaises(Beyond, self.look, text, 0, places)
        self.assertEqual(self.look("if lent and stamp is 4\naccept\nend", 0, places), None)
        self.assertEqual(self.look("page = 0\nslot = 0\na = stamp\naccept", 0, places), (0, 0))

    def test_bad_words(self):
        ids = Ids(give_code(), free_code(), look_code())
        for word in (True, False, None, "1", 1.0, (1,)):
            with self.assertRaises(BadNumber) as caught:
                ids.answer(word, None)
            self.assertIs(caught.exception.number, word)
        self.assertEqual(ids.answer(places={}, word=-BIG), None)


class TestNumbers(unittest.TestCase):
    def test_first_value_that_is_none(self):
        ids = Ids(give_code(), free_code(), look_code())
        for question in (ids.given, ids.brought, ids.stamp_at, ids.id_at, ids.free_stamp):
            for value in NONE:
                for values, told in [((value, -2, -3), value), ((0, value, -3), value), ((0, 0, value), value)]:
                    with self.assertRaises(BadNumber) as caught:
                        question(*values)
                    self.assertIs(caught.exception.number, told)
        for value in NONE:
            self.assertRaises(BadNumber, ids.lives_of, value, 0)
            self.assertRaises(BadNumber, ids.lives_of, 0, value)

    def test_names_of_arguments(self):
        ids = Ids(give_code(), free_code(OLD), look_code())
        self.assertEqual(ids.given(stamp=4095, slot=3, page=2), (2051, 0))
        self.assertEqual(ids.brought(stamp=4095, slot=3, page=2), (4095, True))
        self.assertEqual([ids.stamp_at(page=0, slot=0, life=3), ids.free_stamp(page=0, slot=0, life=3),
                          ids.id_at(page=0, slot=0, life=3), ids.lives_of(page=0, slot=0)], [4, 3, 4 << 32, 4095])


class TestRows(unittest.TestCase):
    """Stamps of lives, held against gives and frees one after the other."""

    def compare(self, ids, page, slot, most):
        stamp = 0
        for life in range(most):
            told = ids.given(page, slot, stamp)
            self.assertEqual(ids.free_stamp(page, slot, life), stamp)
            self.assertEqual((ids.id_at(page, slot, life), ids.stamp_at(page, slot, life)), told)
            stamp, is_retired = ids.brought(page, slot, told[1])
            if is_retired:
                self.assertEqual(ids.lives_of(page, slot), life + 1)
                for more in (1, 2, BIG):
                    self.assertIsNone(ids.free_stamp(page, slot, life + more))
                    self.assertIsNone(ids.stamp_at(page, slot, life + more))
                    self.assertIsNone(ids.id_at(page, slot, life + more))
                return
        self.assertTrue(ids.lives_of(page, slot) is None or ids.lives_of(page, slot) >= most)

    def test_known_rows(self):
        for give, free in [("", ""), ("stamp = stamp + 1", ""), ("stamp = stamp + 5\nstamp = stamp mod 7", ""),
                           ("stamp = stamp + 1", "stamp = stamp & 15\nif stamp is 3\nretire\nend"),
                           ("if stamp < 20\nstamp = stamp + 3\nelse\nstamp = 2\nend", "stamp = stamp + 4"),
                           ("stamp = stamp mod 4\nstamp = stamp + 9", "if 10 <= stamp\nstamp = stamp mod 8\nend"),
                           ("word = stamp + page", "if page is 1\nretire\nend\nif slot is 2\nstamp = 5\nend"),
                           ("stamp = 3", "stamp = stamp + 1"), ("", "retire")]:
            ids = ids_of(give, free)
            for page in (0, 1, 2):
                for slot in (0, 2):
                    self.compare(ids, page, slot, 60)

    def some_lines(self, rng, factors, depth):
        rows = []
        for _ in range(rng.randint(0, 3)):
            kind = rng.randint(0, 4)
            if kind < 2:
                rows.append("stamp = stamp + " + str(rng.randint(1, 12)))
            elif kind == 2:
                rows.append("stamp = stamp mod " + str(rng.choice(factors)))
            elif kind == 3:
                rows.append("stamp = " + str(rng.randint(0, 40)))
            elif depth < 2:
                name, number = rng.choice(["stamp", "stamp", "slot"]), str(rng.randint(0, 50))
                sides = [name, rng.choice(["<", "<=", "is"]), number]
                rows.append("if " + " ".join(sides if rng.random() < 0.5 else sides[::-1]))
                rows += self.some_lines(rng, factors, depth + 1) + ["else"] + self.some_lines(rng, factors, depth + 1)
                rows.append("end")
        return rows

    def test_some_rows(self):
        rng = random.Random(3)
        made = 0
        while made < 150:
            factors = rng.choice([[2, 4, 16, 64], [5, 15, 45], [7], [10, 100]])
            give, free = self.some_lines(rng, factors, 0), self.some_lines(rng, factors, 0)
            if rng.random() < 0.3:
                free += ["if stamp is " + str(rng.randint(0, 30)), "retire", "end"]
            try:
                ids = ids_of("\n".join(give + ["word = stamp"]), "\n".join(free))
            except ValueError:
                continue
            made += 1
            self.compare(ids, 0, rng.randint(0, 50), 150)

    def test_great_lives(self):
        ids = ids_of("stamp = stamp + 7\nword = stamp", "stamp = stamp + 5")
        self.assertEqual([ids.stamp_at(0, 0, BIG), ids.free_stamp(0, 0, BIG), ids.id_at(0, 0, BIG), ids.lives_of(0, 0)],
                         [12 * BIG + 7, 12 * BIG, 12 * BIG + 7, None])
        ids = ids_of("stamp = stamp + 3\nstamp = stamp & " + str(2 ** 90 - 1), "")
        self.assertEqual(ids.stamp_at(0, 0, BIG), 3 * (BIG + 1) % 2 ** 90)
        ids = ids_of("stamp = stamp + 1", "if " + "9" * 30 + " <= stamp\nretire\nend")
        self.assertEqual([ids.lives_of(4, 5), ids.free_stamp(4, 5, 10 ** 30 - 1), ids.free_stamp(4, 5, 10 ** 30 - 2)],
                         [10 ** 30 - 1, None, 10 ** 30 - 2])
        ids = ids_of("stamp = stamp + 11\nstamp = stamp mod " + str(10 ** 29), "stamp = stamp + 1")
        stamp = 12 * BIG % 10 ** 29
        self.assertIn(ids.free_stamp(0, 0, BIG) - stamp, (0, 10 ** 29))
        self.assertEqual(ids_of("stamp = 6", "stamp = stamp + 1").free_stamp(0, 0, BIG), 7)
        self.assertEqual(ids_of("", "").stamp_at(BIG, BIG, BIG), 0)

    def test_places_with_tests(self):
        ids = ids_of("if page < 10\nstamp = stamp + 1\nelse\nstamp = stamp + 2\nend",
                     "if slot is 3 and 100 <= stamp\nretire\nend")
        self.assertEqual([ids.lives_of(0, 3), ids.lives_of(10, 3), ids.lives_of(0, 4), ids.lives_of(BIG, 3)],
                         [100, 50, None, 50])


if __name__ == "__main__":
    unittest.main()
