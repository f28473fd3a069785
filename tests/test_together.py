"""[61], [62]: at which sizes whole programs are right."""

import random
import unittest

from drawnprograms import some_program, some_sizes
from heldplaces.deedverdicts import deed_kept, needs
from heldplaces.errors import BadCount, BadSize
from heldplaces.idverdicts import id_keeps, least_gives
from heldplaces.pagerules import PageRules
from heldplaces.pageverdicts import next_passing, page_is_right, passes
from heldplaces.roomverdicts import room_next_wrong
from heldplaces.store import Store
from heldplaces.together import good_gives, most_slots, next_wrong_program, program_is_right, wrong_parts
from pagebrute import judge
from samples import (
    CARELESS, COPY, GIVE, GIVE_EIGHT, GIVE_FOUR, LESS, LOOK, LOOK_EIGHT, LOOK_FOUR, MOVE, PLAIN, PUT, SHORT, SHRINK, TURNED, TWICE,
    UNTIL, book_codes, deed_codes, ids_of, program_of, put_code, room_code)

NONE = [True, False, None, "3", 1.0, (3,), [], {}, 0, -1]
BIG = 10 ** 30
OLD_FOUR = ids_of(GIVE_FOUR, "if stamp is 3\nretire\nend", LOOK_FOUR)


class TestExample(unittest.TestCase):
    def test_example(self):
        whole = program_of()
        self.assertEqual([most_slots(whole, 40), good_gives(whole, 40), wrong_parts(whole, 40, 4), program_is_right(whole, 40, 4)],
                         [6, None, (), True])
        self.assertEqual(most_slots(program=whole, size=40), 6)
        self.assertEqual(good_gives(program=whole, size=40), None)
        self.assertEqual(wrong_parts(program=whole, size=40, places=4), ())
        self.assertIs(program_is_right(program=whole, size=40, places=4), True)
        self.assertEqual(next_wrong_program(program=whole, size=40, places=4), 8 + 5 * 1025)


class TestErrors(unittest.TestCase):
    def test_sizes(self):
        program = program_of(PageRules(8, 4, 4, 39))
        for value in NONE + [7, 42, 40, 44]:
            for question in (most_slots, good_gives):
                with self.assertRaises(BadSize) as caught:
                    question(program, value)
                self.assertIs(caught.exception.size, value)
            for question in (wrong_parts, program_is_right):
                with self.assertRaises(BadSize) as caught:
                    question(program, value, 0)
                self.assertIs(caught.exception.size, value)
        for value in NONE:
            with self.assertRaises(BadSize) as caught:
                next_wrong_program(program, value, 0)
            self.assertIs(caught.exception.size, value)
        self.assertEqual([next_wrong_program(program, value, 4) for value in (1, 7, 40, 10 ** 60)], [None] * 4)

    def test_places(self):
        program = program_of(book=book_codes(LESS))
        for value in NONE + [1]:
            for question in (wrong_parts, program_is_right, next_wrong_program):
                with self.assertRaises(BadCount) as caught:
                    question(program, 40, value)
                self.assertIs(caught.exception.many, value)


class TestMostSlots(unittest.TestCase):
    def test_against_trying(self):
        for text in (PUT, SHORT, PUT.replace("if b < a\npack", "if slots is 1\nquit\nend\nif b < a\npack"), "no", "", "take next",
                     "take next\nslots = slots + 1", PUT.replace("if there is empty\ntake empty\nelse\ntake next",
                                 "if slots < 3\nif there is empty\ntake empty\nelse\ntake next").replace(
                         "slots = slots + 1\nend", "slots = slots + 1\nend\nelse\nno\nend")):
            for rules in (PageRules(2, 1, 1), PageRules(0, 2, 2), PageRules(1, 1, 1, 7), PageRules(0, 3, 1)):
                program = program_of(rules, put=text)
                for size in range(1, 9):
                    if rules.in_use(size) and (rules.most is None or size <= rules.most):
                        greatest = judge(program.page_codes[0], size, 2, False)[1]
                        self.assertEqual(most_slots(program, size), greatest + 1, (text, rules.head, size))

    def test_with_passes(self):
        program = program_of()
        put = program.page_codes[0]
        for size in (8, 12, 13, 17, 18, 1000, 10253, 10 ** 30, 10 ** 60 + 7):
            many = most_slots(program, size)
            self.assertEqual(many, max(0, (size - 8) // 5))
            self.assertFalse(passes(put, many, size))
            if many > 0:
                self.assertTrue(passes(put, many - 1, size))
                self.assertEqual(next_passing(put, many - 1, 1), 8 + 5 * many)


class TestGoodGives(unittest.TestCase):
    def test_gives(self):
        program = program_of(ids=ids_of(free=""), pages=7)
        self.assertEqual([good_gives(program, size) for size in (8, 12, 13, 40, 5132, 5133, 10 ** 40)],
                         [None, None, 4096, 4096, 4096, 1, 1])
        twice = program_of(ids=ids_of(free="stamp = stamp + 1\nstamp = stamp & 4095"), pages=100)
        self.assertEqual([good_gives(twice, 13), good_gives(twice, 5000)], [2048, 2048])
        self.assertEqual(good_gives(program_of(pages=100), 5000), None)
        # With 1,025 slots the ids of the last one lead to the next page, which may be lent for the same stamp.
        self.assertEqual([good_gives(program_of(pages=100), 8 + 5 * 1024), good_gives(program_of(pages=100), 8 + 5 * 1025)],
                         [None, least_gives(ids_of(), "stale", 100, 1025) - 1])
        self.assertEqual(good_gives(program_of(ids=ids_of(free="")), 8 + 5 * (10 ** 30 + 1)),
                         good_gives(program_of(ids=ids_of(free="")), 5 * 10 ** 59))

    def test_against_histories(self):
        for give, free, look in ((GIVE_FOUR, "", LOOK_FOUR), (GIVE_EIGHT, "stamp = stamp + 1", LOOK_EIGHT),
                                 (GIVE_FOUR, "stamp = stamp + 3", LOOK_FOUR)):
            ids = ids_of(give, free, look)
            program = program_of(ids=ids, pages=3)
            for size in (13, 18, 23, 33):
                told = least_gives(ids, "stale", 3, most_slots(program, size))
                self.assertEqual(good_gives(program, size), None if told is None else told - 1)

    def test_shown_behind_the_good_gives(self):
        program = program_of(ids=ids_of(GIVE_FOUR, "", LOOK_FOUR), pages=1, outside=True)
        gives = good_gives(program, 13)
        self.assertEqual(gives, 4)
        store = Store(program, 13, 99)
        for k in range(gives + 1):
            self.assertEqual(store.faults(), ())
            self.assertEqual(store.call("enter", k, 1).told, "ok")
            if k < gives:
                self.assertEqual(store.call("leave", k).told, "ok")
        self.assertEqual(store.faults(), (("shown", 0),))


class TestWrongParts(unittest.TestCase):
    def test_deeds(self):
        for text in (CARELESS, "", "quit no"):
            program = program_of(deeds=deed_codes(enter=text))
            self.assertEqual((wrong_parts(program, 40, 4), program_is_right(program, 8, 1)), (("deeds",), False))
            self.assertEqual([next_wrong_program(program, size, 4) for size in (1, 9, BIG)], [8, 9, BIG])
        self.assertEqual(wrong_parts(program_of(deeds=deed_codes(change=MOVE)), 40, 4), ("deeds",))
        self.assertEqual(wrong_parts(program_of(deeds=deed_codes(change=COPY)), 40, 4), ())

    def test_pages(self):
        short = program_of(put=SHORT)
        self.assertEqual([wrong_parts(short, 8, 4), wrong_parts(short, 9, 4), next_wrong_program(short, 1, 4),
                          next_wrong_program(short, BIG, 4)],
                         [(), ("pages",), 9, BIG])
        twice = program_of(strike=TWICE)
        self.assertEqual([wrong_parts(twice, 12, 4), wrong_parts(twice, 13, 4), next_wrong_program(twice, 8, 4)], [(), ("pages",), 13])
        none = program_of(stretch="")
        self.assertEqual(next_wrong_program(none, 1, 4), 13)
        late = program_of(put=PUT + "\nif 1000 < size\nholes = 1\nend")
        self.assertEqual([wrong_parts(late, 1000, 4), wrong_parts(late, 1001, 4), next_wrong_program(late, 1, 4)], [(), ("pages",), 1001])
        far = program_of(put=PUT + "\nif size is " + str(BIG - 1) + "\nholes = 1\nend", pages=1, ids=ids_of(
            "word = slot + 1", "retire", "page = 0\nslot = word - 1\nif lent\naccept\nend"))
        self.assertEqual([next_wrong_program(far, 1, 4), next_wrong_program(far, BIG, 4), wrong_parts(far, BIG - 1, 4)],
                         [BIG - 1, BIG + 12, ("pages",)])

    def test_ids(self):
        program = program_of(pages=2)
        self.assertEqual([most_slots(program, 5132), wrong_parts(program, 5132, 4), most_slots(program, 5133),
                          wrong_parts(program, 5133, 4)],
                         [1024, (), 1025, ("ids",)])
        four = program_of(ids=OLD_FOUR, pages=4)
        self.assertEqual([next_wrong_program(four, 1, 4), wrong_parts(four, 32, 4), wrong_parts(four, 33, 4)], [33, (), ("ids",)])
        self.assertEqual(wrong_parts(program_of(ids=OLD_FOUR, pages=5), 13, 4), ("ids",))

    def test_no_slots(self):
        wrong = ids_of("", "", "accept")
        program = program_of(ids=wrong)
        self.assertEqual([most_slots(program, 12), wrong_parts(program, 12, 4), wrong_parts(program, 13, 4),
                          next_wrong_program(program, 1, 4)],
                         [0, (), ("ids",), 13])

    def test_which_promises_of_ids(self):
        stale = ids_of(GIVE, "stamp = stamp + 1\nstamp = stamp & 4095", LOOK)
        self.assertEqual(wrong_parts(program_of(ids=stale), 40, 4), ())
        self.assertEqual(wrong_parts(program_of(ids=stale, outside=True), 40, 4), ("ids",))
        self.assertEqual(wrong_parts(program_of(outside=True), 40, 4), ())
        # Only none is broken here.
        none = ids_of(GIVE, "if stamp is 4095\nretire\nend", LOOK, 1 << 32)
        self.assertEqual(wrong_parts(program_of(ids=none), 40, 4), ("ids",))
        # Deeds that look at no id, and give none, need neither own nor unlike.
        idle = deed_codes(enter="quit no", leave="quit no", change="quit no")
        same = ids_of("word = 5", "", "refuse")
        self.assertEqual(wrong_parts(program_of(ids=same, deeds=idle), 40, 4), ("deeds",))
        self.assertEqual(wrong_parts(program_of(ids=same), 40, 4), ("ids",))
        self.assertEqual(wrong_parts(program_of(ids=ids_of("word = 5", "", "page = 0\nslot = word\na = stamp"), deeds=idle), 40, 4),
                         ("deeds", "ids"))

    def test_each_number_of_slots_up_to_the_most(self):
        # With one slot a look asks a place that there is not; with two slots it is there, but one slot comes up, too.
        odd = ids_of("word = slot + 1", "", "page = 0\nslot = 1\nif 9 < stamp\nrefuse\nend")
        self.assertEqual([id_keeps(odd, "inside", 1, many) for many in (1, 2, 3)], [False, True, True])
        program = program_of(ids=odd, pages=1, deeds=deed_codes(enter="quit no", leave="quit no", change="quit no"))
        self.assertEqual([wrong_parts(program, size, 4) for size in (12, 13, 18, 40)],
                         [("deeds",), ("deeds", "ids"), ("deeds", "ids"), ("deeds", "ids")])

    def test_rooms(self):
        tight = program_of(room=room_code(top=255))
        self.assertEqual([next_wrong_program(tight, 1, 4), wrong_parts(tight, 267, 4), wrong_parts(tight, 268, 4)], [268, (), ("rooms",)])
        down = program_of(room=room_code("class = fit // 32", "class = len // 32"))
        self.assertEqual(next_wrong_program(down, 1, 4), 13)
        # Found and whole are not asked.
        late = program_of(room=room_code("class = fit // 32", "class = len + 31 // 32"))
        self.assertEqual(wrong_parts(late, 13, 4), ())
        lazy = program_of(room=room_code("class = fit // 32", "class = len + 31 // 32", fall=32))
        self.assertEqual([next_wrong_program(lazy, 1, 4), wrong_parts(lazy, 43, 4), wrong_parts(lazy, 44, 4)], [44, (), ("rooms",)])

    def test_book(self):
        until = program_of(book=book_codes(fail=UNTIL))
        self.assertEqual([wrong_parts(until, 40, 4), next_wrong_program(until, 1, 4), next_wrong_program(until, 41, 4)], [("book",), 8, 41])
        self.assertEqual(wrong_parts(program_of(book=book_codes(LESS, fail=UNTIL)), 40, 4), ())
        turned = program_of(book=book_codes(note=TURNED))
        self.assertEqual([wrong_parts(turned, 40, places) for places in (63, 64, 65)], [("book",), (), ("book",)])
        self.assertEqual(next_wrong_program(turned, 1, 64), 5133)

    def test_several_parts(self):
        program = program_of(put=SHORT, ids=ids_of("", "", "accept"), room=room_code(top=0), deeds=deed_codes(leave=""),
                             book=book_codes(redo="no"))
        self.assertEqual(wrong_parts(program, 40, 4), ("deeds", "pages", "ids", "rooms", "book"))
        self.assertEqual(wrong_parts(program, 8, 4), ("deeds", "book"))

    def test_most(self):
        for most, found in ((5132, None), (5133, 5133), (5134, 5133)):
            rules = PageRules(8, 4, 1, most)
            self.assertEqual(next_wrong_program(program_of(rules), 1, 4), found)
        rules = PageRules(8, 4, 1, 100)
        late = program_of(rules, put=PUT + "\nif size is 101\nholes = 1\nend")
        self.assertEqual([next_wrong_program(late, 1, 4), page_is_right(late.page_codes[0], 101)], [None, False])
        wrong = program_of(rules, deeds=deed_codes(leave=""))
        self.assertEqual([next_wrong_program(wrong, size, 4) for size in (1, 100, 101, 102)], [8, 100, None, None])

    def test_great_sizes(self):
        ids = ids_of("word = slot << 8\nword = word + page + 1", "retire",
                     "a = word - 1\npage = a & 255\nslot = a >> 8\nif lent\naccept\nend")
        program = program_of(ids=ids, pages=200, outside=True)
        for size in (8, 40, BIG, 10 ** 59):
            self.assertEqual((wrong_parts(program, size, 4) if size < BIG else ()), ())
        self.assertEqual(next_wrong_program(program, 1, 4), 12 + 10 ** 30)
        self.assertEqual([wrong_parts(program, size, 10 ** 40) for size in (11 + BIG, 12 + BIG)], [(), ("rooms",)])
        narrow = ids_of("word = page << 90\nword = word + slot + 1", "retire",
                        "a = word - 1\npage = a >> 90\nslot = a mod " + str(1 << 90) +
                        "\nif lent\naccept\nend")
        program = program_of(ids=narrow, pages=3, room=room_code("class = 0", "class = 0\nlook"))
        least = 8 + 5 * (2 ** 90 + 1)
        self.assertEqual([next_wrong_program(program, 1, 4), next_wrong_program(program, least + 5, 4), wrong_parts(program, least - 1, 4),
                          wrong_parts(program, least, 4)], [least, least + 5, (), ("ids",)])


class TestDrawnPrograms(unittest.TestCase):
    def told_parts(self, program, size, places):
        """The wrong parts, each asked by itself."""
        found = []
        if any(len(deed_kept(code)) < 5 for code in program.deeds):
            found.append("deeds")
        if not all(page_is_right(code, size) for code in program.page_codes):
            found.append("pages")
        asked = ("inside", "none") + needs(program.deeds, program.outside)[1:]
        slots = range(1, most_slots(program, size) + 1)
        if not all(id_keeps(program.ids, promise, program.most_pages, many) for promise in asked for many in slots):
            found.append("ids")
        if any(room_next_wrong(program.room_code, promise, size) == size for promise in ("inside", "safe")):
            found.append("rooms")
        return tuple(found)

    def test_each_part_by_itself(self):
        rng = random.Random(21)
        for _ in range(40):
            program = some_program(rng, rng.choice([0, 0.1]))
            size, places = some_sizes(rng, program, 50)
            found = wrong_parts(program, size, places)
            self.assertEqual(tuple(part for part in found if part != "book"), self.told_parts(program, size, places))
            self.assertEqual(program_is_right(program, size, places), found == ())

    def test_next_wrong_program(self):
        rng = random.Random(22)
        for _ in range(25):
            program = some_program(rng, rng.choice([0, 0.03]), outside=False, room=("class = fit", "class = len"), top=60)
            _, places = some_sizes(rng, program)
            rules = program.page_codes[0].rules
            sizes = [size for size in range(1, 80) if rules.in_use(size) and (rules.most is None or size <= rules.most)]
            wrong = [size for size in sizes if not program_is_right(program, size, places)]
            for start in range(1, 80, 7):
                found, ahead = next_wrong_program(program, start, places), [size for size in wrong if size >= start]
                self.assertEqual(None if found is None or found >= 80 else found, ahead[0] if ahead else None)


class TestStores(unittest.TestCase):
    """Stores at the first size at which a program is wrong, and one below."""

    def test_a_number_that_no_part_shows_alone(self):
        program = program_of(ids=OLD_FOUR, pages=2)
        size = next_wrong_program(program, 1, 9)
        self.assertEqual(size, 33)
        faults = {}
        for one in (size - 1, size):
            store = Store(program, one, 50)
            for key in range(12):
                store.call("enter", key, 1)
            faults[one] = store.faults()
        self.assertEqual(faults[size - 1], ())
        self.assertNotEqual(faults[size], ())

    def test_short(self):
        program = program_of(put=SHORT)
        self.assertTrue(page_is_right(put_code(SHORT, PLAIN), 8))
        self.assertEqual(next_wrong_program(program, 8, 4), 9)

    def test_shrinking(self):
        self.assertEqual(wrong_parts(program_of(strike=SHRINK), 60, 9), ())


if __name__ == "__main__":
    unittest.main()
