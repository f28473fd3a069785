"""[24], [25], [64] to [66]: ids judged for all places and all histories."""

import random
import unittest

from heldplaces.errors import BadNumber, BadPromise, HeldError
from heldplaces.idcodes import IdCode
from heldplaces.ids import Ids
from heldplaces.idverdicts import id_keeps, id_kept, least_gives, next_id_break
from idbrute import PROMISES, breaks, histories, lives_of
from samples import free_code, give_code, look_code

NONE = [True, False, None, "3", 1.0, (3,), [], -1, 0, 10 ** 30 + 1]
TWICE = "stamp = stamp + 1\nstamp = stamp & 4095"
OLD = "if stamp is 4095\nretire\nend"
MOST = 10 ** 30


def ids_of(give, free, look, none=0):
    return Ids(IdCode("give", give), IdCode("free", free), IdCode("look", look), none)


def packed(stamps, slots, pages=None, step="stamp = stamp + 1", rest=True, free="", check="if lent and a is stamp\naccept\nend",
           none=0):
    """Ids of page, stamp and slot, from above, with parts that have so many values."""
    give = step + ("\nstamp = stamp mod " + str(stamps) if rest else "")
    give += "\na = page * " + str(stamps * slots) + "\nb = stamp * " + str(slots) + "\nword = a + b + slot"
    look = "page = word // " + str(stamps * slots) + ("" if pages is None else "\npage = page mod " + str(pages))
    look += "\nb = word mod " + str(stamps * slots) + "\na = b // " + str(slots) + "\nslot = b mod " + str(slots) + "\n" + check
    return ids_of(give, free, look, none)


class TestExamples(unittest.TestCase):
    def setUp(self):
        self.one = Ids(give_code(), free_code(), look_code())
        self.two = Ids(give_code(), free_code(TWICE), look_code())
        self.three = Ids(give_code(), free_code(OLD), look_code())

    def test_examples(self):
        one, two, three = self.one, self.two, self.three
        self.assertEqual([id_kept(one, 4194304, 1024), least_gives(one, "stale", 7, 9), least_gives(one, "none", 7, 9),
                          least_gives(one, "own", 7, 9)], [("inside", "own", "unlike"), 4097, 4096, None])
        self.assertEqual([id_kept(two, 100, 1024), least_gives(two, "stale", 1, 1), id_kept(three, 100, 1024)],
                         [("inside", "own", "unlike", "none"), 2049, PROMISES])
        self.assertEqual([next_id_break(three, "unlike", 100, 1), next_id_break(three, "own", 100, 1)], [1025, 1025])

    def test_names_of_arguments(self):
        self.assertTrue(id_keeps(ids=self.three, promise="own", pages=100, many=1024))
        self.assertFalse(id_keeps(ids=self.three, promise="own", pages=100, many=1025))
        self.assertEqual(id_kept(ids=self.three, pages=4194304, many=1), PROMISES)
        self.assertEqual(least_gives(ids=self.one, promise="stale", pages=1, many=1), 4097)
        self.assertEqual(next_id_break(ids=self.three, promise="stale", pages=100, many=7), 1025)


class TestErrors(unittest.TestCase):
    def test_promises_and_numbers(self):
        ids = Ids(give_code(), free_code(), look_code())
        for value in NONE + ["", "Own", "full", ["own"], {}]:
            for question in (id_keeps, least_gives, next_id_break):
                with self.assertRaises(BadPromise) as caught:
                    question(ids, value, -1, -1)
                self.assertIs(caught.exception.promise, value)
        for value in NONE:
            for question in (id_keeps, least_gives, next_id_break):
                for pages, many in ((value, -2), (1, value)):
                    with self.assertRaises(BadNumber) as caught:
                        question(ids, "own", pages, many)
                    self.assertIs(caught.exception.number, value)
            with self.assertRaises(BadNumber) as caught:
                id_kept(ids, value, -2)
            self.assertIs(caught.exception.number, value)
            self.assertRaises(BadNumber, id_kept, ids, 1, value)

    def test_edges(self):
        ids = Ids(give_code(), free_code(OLD), look_code())
        self.assertEqual([id_kept(ids, 1, 1), id_kept(ids, MOST, 1024), id_kept(ids, 1, MOST)],
                         [PROMISES, ("inside", "none"), ("inside", "none")])
        self.assertEqual([next_id_break(ids, "own", 1, MOST), next_id_break(ids, "own", MOST, MOST),
                          next_id_break(ids, "none", MOST, MOST)], [MOST, MOST, None])


class TestAgainstTrying(unittest.TestCase):
    """The questions held against all lives of all places, and all states of these."""

    LIVES = 30

    def check(self, ids, pages, several=(1, 2, 3, 5)):
        told = (ids.give.text, ids.free.text, ids.look.text, ids.none, pages)
        table = {many: breaks(ids, pages, many, self.LIVES) for many in range(1, several[-1] + 1)}
        # Of endless rows of stamps only a first part is tried.
        is_whole = all(len(lives_of(ids, page, slot, self.LIVES)) <= self.LIVES for page in range(pages) for slot in range(several[-1]))
        for many in several:
            kept = id_kept(ids, pages, many)
            for promise in PROMISES:
                least, want = least_gives(ids, promise, pages, many), table[many].get(promise)
                self.assertEqual([promise in kept, id_keeps(ids, promise, pages, many)], [least is None] * 2, (told, many, promise))
                if is_whole or want is not None and want <= self.LIVES:
                    self.assertEqual(least, want, (told, many, promise))
                else:
                    self.assertTrue(least is None or least > self.LIVES, (told, many, promise))
                self.check_next(ids, promise, pages, many, told)

    def check_next(self, ids, promise, pages, many, told):
        found = next_id_break(ids, promise, pages, many)
        for more in range(many, min(many + 4, MOST if found is None else found)):
            self.assertTrue(id_keeps(ids, promise, pages, more), (told, many, promise))
        if found is not None:
            self.assertFalse(id_keeps(ids, promise, pages, found), (told, many, promise))

    def test_histories(self):
        rng = random.Random(4)
        for _ in range(40):
            ids = self.some_ids(rng)
            for pages, many in ((1, 1), (1, 2), (2, 1), (2, 2)):
                most = 4 if pages * many == 4 else 6
                found = histories(ids, pages, many, most)
                for promise in PROMISES:
                    least = least_gives(ids, promise, pages, many)
                    self.assertEqual(None if least is None or least > most else least, found.get(promise),
                                     (ids.give.text, ids.free.text, ids.look.text, ids.none, pages, many, promise))

    def test_known_slips(self):
        give = "stamp = stamp + 1\nstamp = stamp & 3\na = stamp << 4\nb = page << 2\nword = a + b + slot"
        look = "a = word >> 4\nb = word & 15\npage = b >> 2\nslot = b & 3\nif lent and a is stamp\naccept\nend"
        for one, two, three in [
                (give, "", look), (give, "stamp = stamp + 1\nstamp = stamp & 3", look), (give, "if stamp is 3\nretire\nend", look),
                (give, "if 2 <= stamp\nretire\nend", look), (give, "", look.replace("lent and ", "")),
                (give, "", look.replace(" and a is stamp", "")), (give, "", look.replace("if lent and a is stamp\naccept\nend", "accept")),
                (give.replace("stamp & 3", "stamp & 1"), "", look), (give.replace("stamp << 4", "stamp << 3"), "", look),
                (give.replace("page << 2", "page << 1"), "", look), (give, "", look.replace("b & 3", "b & 1")),
                (give, "", look.replace("word & 15", "word & 7")), (give, "", look.replace("word & 15", "word & 31")),
                (give.replace("stamp = stamp & 3\n", ""), "", look), (give.replace("stamp = stamp & 3\n", ""), "stamp = stamp & 7", look),
                ("word = page << 2\nword = word + slot", "", "page = word >> 2\nslot = word & 3\nif lent\naccept\nend"),
                ("word = page << 2\nword = word + slot\nif slot is 1\nstamp = 2\nend", "if page < 1\nretire\nend",
                 "page = word >> 2\nslot = word & 3\nif not stamp is 1 and lent\naccept\nend"),
                (give, "if slot < 2\nstamp = stamp + 1\nstamp = stamp & 3\nelse\nif page is 1\nretire\nend\nend", look),
                ("stamp = stamp + 3\n" + give, "stamp = stamp & 7", look), ("", "", "refuse"), ("word = slot", "", "slot = word\naccept"),
                ("word = slot - page", "", "slot = word\npage = 0\nif stamp < 1 and lent\naccept\nend"),
                (give, "", look.replace("lent and a is stamp", "not lent and a is stamp")),
                (give, "", "c = word - 1\n" + look.replace("word", "c")), ("c = 3\n" + give + "\nword = word + c", "", look)]:
            for pages in (1, 2, 4):
                self.check(ids_of(one, two, three, none=pages - 2), pages)

    def some_stamps(self, rng, rests):
        rows = []
        for _ in range(rng.randint(0, 2)):
            rows.append(rng.choice(["stamp = stamp + " + str(rng.choice([1, 1, 2, 5, 12])), "stamp = stamp mod " + str(rng.choice(rests)),
                                    "stamp = stamp mod " + str(rng.choice(rests)), "stamp = " + str(rng.randint(0, 3))]))
        if rows and rng.random() < 0.4:
            name = rng.choice(["page", "slot", "stamp", "stamp"])
            sides = [name, rng.choice(["<", "<=", "is"]), str(rng.randint(0, 4))]
            rows = ["if " + " ".join(sides if rng.random() < 0.6 else sides[::-1])] + rows + ["end"]
        return rows

    def some_ids(self, rng):
        while True:
            rests = rng.choice([[2, 4], [3, 6], [2, 4, 8], [4, 12]])
            give = self.some_stamps(rng, rests) + ["a = " + rng.choice(["page", "slot", "stamp"]) + " * " + str(rests[-1])]
            give += ["b = " + rng.choice(["page", "slot", "stamp"]) + rng.choice(["", "", " * ", " // ", " mod "])]
            if give[-1][-1] == " ":
                give[-1] += str(rests[0])
            give += ["word = a + b" + rng.choice(["", " + stamp", " - slot", " + page + 1", " + slot"])]
            free = self.some_stamps(rng, rests) + rng.choice([[], [], ["if 2 <= stamp", "retire", "end"], ["if slot is 1", "retire", "end"]])
            look = ["a = word // " + str(rests[-1]), "b = word mod " + str(rests[-1])]
            look += [rng.choice(["page = a", "page = b", "page = b // " + str(rests[0]), "page = 0", "page = a - 1"])]
            look += [rng.choice(["slot = b mod " + str(rests[0]), "slot = a", "slot = b", "slot = 1", "if a < 2\nslot = b\nelse\nslot = 0\nend"])]
            look += [rng.choice(["if lent\naccept\nend", "if lent and a is stamp\naccept\nend", "if b is stamp\naccept\nend", "accept",
                                 "c = stamp - a\nif not c < 0 and lent and c < 2\naccept\nend", "if not lent\nrefuse\nend\naccept",
                                 "if page < slot\nrefuse\nend\nif stamp <= a\naccept\nend", "if a is 1\nrefuse\nend\nif lent\naccept\nend"])]
            try:
                return ids_of("\n".join(give), "\n".join(free), "\n".join(look), rng.choice([0, 0, 1, 3]))
            except HeldError:
                continue

    def test_some_ids(self):
        rng = random.Random(5)
        for _ in range(100):
            self.check(self.some_ids(rng), rng.choice([1, 2, 3]), (1, 2, 4))


class TestGreatNumbers(unittest.TestCase):
    """Stamps and parts with numbers of 25 to 30 figures, where the answer is known by hand."""

    def test_parts(self):
        for stamps, slots in ((10 ** 4, 10 ** 25), (10 ** 25, 10 ** 4), (10 ** 14, 10 ** 15)):
            ids = packed(stamps, slots)
            self.assertEqual(id_kept(ids, MOST, slots), ("inside", "own", "unlike"))
            for promise in ("own", "unlike"):
                self.assertEqual([next_id_break(ids, promise, MOST, 1), next_id_break(ids, promise, 1, slots + 1)], [slots + 1] * 2)
            # The first id of the slot 0 with the stamp that comes round is 0 on the page 0.
            self.assertEqual([least_gives(ids, "none", 5, 5), least_gives(ids, "stale", 5, 5)], [stamps, stamps + 1])
            # The last slot with a stamp is the first one with the next stamp.
            self.assertEqual([least_gives(ids, promise, 1, slots + 1) for promise in ("own", "unlike")], [1, 3])

    def test_pages_that_are_cut_off(self):
        stamps, slots, pages = 10 ** 5, 10 ** 10, 10 ** 15
        ids = packed(stamps, slots, pages)
        for many in (1, slots):
            self.assertEqual(id_keeps(ids, "own", pages, many), True)
            self.assertEqual([least_gives(ids, promise, pages + 1, many) for promise in ("own", "unlike", "inside")], [1, None, None])

    def test_steps(self):
        number = 10 ** 28
        for step, free, want in [("stamp = stamp + 1", "", number + 1), ("stamp = stamp + 1", "stamp = stamp + 1", number // 2 + 1),
                                 ("stamp = stamp + 10", "", number // 10 + 1), ("stamp = stamp + 3", "", number + 1),
                                 ("stamp = stamp + 12", "stamp = stamp + 8", number // 20 + 1),
                                 ("stamp = stamp + 12", "", number // 4 + 1), ("stamp = stamp + 7", "stamp = stamp + 8", number // 5 + 1)]:
            if free:
                free = free + "\nstamp = stamp mod " + str(number)
            ids = packed(number, 10, step=step, free=free)
            self.assertEqual(least_gives(ids, "stale", 3, 4), want, (step, free))

    def test_none(self):
        number = 10 ** 28
        for none, want in [(10 * (number - 1), number - 1), (10 * number - 7, number - 1), (3, number), (10 * number + 12, 1),
                           (-1, None), (10 * number, number), (10 * number - 10 + 4, None)]:
            ids = packed(number, 10, none=none)
            self.assertEqual(least_gives(ids, "none", 3, 4), want, none)
            self.assertEqual(id_keeps(ids, "none", 3, 4), want is None)
        self.assertEqual(next_id_break(packed(number, 10, none=10 * number - 3), "none", 1, 1), 8)
        self.assertEqual(next_id_break(packed(number, 10, none=10 * number - 3), "none", 1, 9), 9)

    def test_retired(self):
        number = 10 ** 28
        ids = packed(number, 10, free="if " + str(number - 1) + " <= stamp\nretire\nend")
        self.assertEqual(id_kept(ids, MOST, 10), PROMISES)
        late = packed(number, 10, free="if " + str(number) + " <= stamp\nretire\nend")
        self.assertEqual([least_gives(late, "stale", 1, 1), least_gives(late, "none", 1, 1)], [number + 1, number])
        early = packed(number, 10, rest=False, free="if " + str(number + 4) + " <= stamp\nretire\nend")
        self.assertEqual([least_gives(early, "own", 1, 1), least_gives(early, "own", 2, 1)], [number, number])
        self.assertEqual([least_gives(early, "unlike", 1, 1), least_gives(early, "unlike", 2, 1)], [None, number + 2])

    def test_no_lent_asked(self):
        ids = packed(10 ** 25, 10, check="if a is stamp\naccept\nend")
        self.assertEqual(least_gives(ids, "stale", 1, 1), 1)
        ids = packed(10 ** 25, 10, check="if a is stamp\naccept\nend", free="stamp = stamp + 1\nstamp = stamp mod " + str(10 ** 25))
        # Each second stamp is one of a place that is free.
        self.assertEqual(least_gives(ids, "stale", 1, 1), 10 ** 25 // 2 + 1)
        ids = packed(10 ** 25, 10, check="accept")
        self.assertEqual([least_gives(ids, "stale", 1, 1), next_id_break(ids, "inside", 1, 1)], [1, 11])
        self.assertEqual([id_keeps(ids, "inside", 1, 10), least_gives(ids, "inside", 1, 11)], [True, 10 ** 25 - 1])

    def test_beyond(self):
        number = 10 ** 28
        ids = ids_of("word = page * " + str(number) + "\nword = word + slot", "",
                     "page = word // " + str(number) + "\nslot = word mod " + str(number) + "\naccept")
        self.assertEqual([next_id_break(ids, "inside", 1, 1), next_id_break(ids, "inside", 1, 10 * number),
                          least_gives(ids, "inside", 1, number + 1)], [number + 1, 10 * number, 1])
        less = ids_of("word = slot + " + str(number), "", "page = 0\nslot = word\naccept")
        self.assertEqual([next_id_break(less, "inside", 1, 1), next_id_break(less, "inside", 7, MOST)], [1, MOST])
        # A slot above the last one is named; with more slots it is there.
        fixed = ids_of("", "", "page = 0\nslot = " + str(number) + "\naccept")
        self.assertEqual([next_id_break(fixed, "inside", 1, 1), next_id_break(fixed, "inside", 1, number),
                          next_id_break(fixed, "inside", 1, number + 1), id_keeps(fixed, "inside", 9, number + 1)],
                         [1, number, None, True])

    def test_breaks_beyond_all_numbers_of_slots(self):
        ones = 2 ** 90 - 1
        ids = ids_of("stamp = stamp + 1\na = page << 89\nword = a << 90\nb = stamp << 89\nb = b << 90\nword = slot", "",
                     "page = 0\nslot = word\nif lent\naccept\nend")
        self.assertEqual(next_id_break(ids, "own", 1, 1), None)
        wide = ids_of("word = slot", "if " + "9" * 30 + " <= slot\nstamp = 1\nend",
                      "page = 0\nslot = word\nif lent and stamp is 0\naccept\nend")
        self.assertEqual([next_id_break(wide, "own", 1, 1), next_id_break(wide, "stale", 1, 1)], [10 ** 30, 1])
        cut = ids_of("a = slot\nword = a << 1", "", "page = 0\nslot = word // 2\nslot = slot + 0\nif slot < 0\nrefuse\nend\na = slot >> 90\n"
                     "a = a << 90\nslot = slot - a\nif lent\naccept\nend")
        self.assertEqual([next_id_break(cut, "own", 1, 1), next_id_break(cut, "own", 1, MOST), next_id_break(cut, "unlike", 1, 1)],
                         [ones + 2, MOST, None])
        far = ids_of("a = slot * " + "1" + "0" * 29 + "\nword = a * 1000000", "",
                     "a = word // 1000000\nslot = a // " + "1" + "0" * 29 + "\npage = 0\na = slot // 10000000000\nb = a // " + "1" + "0" * 29 +
                     "\nif 0 < b\nrefuse\nend\nif lent\naccept\nend")
        self.assertEqual([next_id_break(far, "own", 1, 1), next_id_break(far, "own", 1, MOST), id_keeps(far, "own", 1, MOST)],
                         [10 ** 39 + 1] * 2 + [True])

    def test_overlapping_parts(self):
        low, high = 10 ** 12, 10 ** 25
        ids = ids_of("a = page * " + str(high) + "\nb = slot * " + str(low) + "\nword = a + b", "",
                     "page = word // " + str(high) + "\na = word mod " + str(high) + "\nslot = a // " + str(low) + "\nif lent\naccept\nend")
        many = high // low
        self.assertEqual([next_id_break(ids, "unlike", 2, 1), next_id_break(ids, "unlike", 1, 1), next_id_break(ids, "own", 1, 1)],
                         [many + 1, None, many + 1])
        odd = ids_of("a = page * " + str(high) + "\nb = slot * " + str(low) + "\nword = a + b + page", "",
                     "page = word // " + str(high) + "\na = word mod " + str(high) + "\nslot = a // " + str(low) + "\nif lent\naccept\nend")
        # page * (high + 1) + slot * low: slots come round only where the pages are low apart.
        self.assertEqual([next_id_break(odd, "unlike", low, 1), id_keeps(odd, "unlike", 7, MOST)], [None, True])
        self.assertEqual(next_id_break(odd, "unlike", low + 1, 1), high + 2)

    def test_counting_at_one_end(self):
        number = 10 ** 26
        ids = packed(number, 10, step="b = 0", rest=False, free="stamp = stamp + 1\nstamp = stamp mod " + str(number))
        self.assertEqual([id_kept(ids, 5, 5), least_gives(ids, "stale", 5, 5), least_gives(ids, "none", 5, 5)],
                         [("inside", "own", "unlike"), number + 1, 1])

    def test_places_treated_otherwise(self):
        number = 10 ** 27
        step = "if page < " + str(number) + "\nstamp = stamp + 1\nelse\nstamp = stamp + 2\nend"
        ids = packed(10 ** 8, 10, step=step)
        self.assertEqual([least_gives(ids, "stale", number, 1), least_gives(ids, "stale", number + 1, 1)], [10 ** 8 + 1, 10 ** 8 // 2 + 1])
        step = "if not slot is " + str(number) + "\nstamp = stamp + 1\nend"
        ids = packed(10, 10 * number, step=step)
        self.assertEqual([next_id_break(ids, "none", 1, 1), least_gives(ids, "stale", 1, number), least_gives(ids, "stale", 1, number + 1)],
                         [1, 11, 2])


if __name__ == "__main__":
    unittest.main()
