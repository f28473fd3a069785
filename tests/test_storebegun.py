"""[60]: stores that begin at a page."""

import unittest

from heldplaces.errors import BadCount, BadLives, BadPage, BadSize
from heldplaces.pageplay import play_page
from heldplaces.pagerules import PageRules
from heldplaces.pageverdicts import least_page_case
from heldplaces.store import Store
from samples import (
    GIVE_EIGHT, GIVE_FOUR, LOOK_EIGHT, LOOK_FOUR, PLAIN, PUT, SHRINK, STRETCH, STRIKE, TWICE, ids_of, program_of, put_code, room_code,
    set_code, strike_code)

PAGE = (40, 25, (None, (30, 10), (27, 3), None))
EIGHT_IDS = ids_of(GIVE_EIGHT, "", LOOK_EIGHT)


def begun(page=PAGE, lives=0, size=None, places=4, **more):
    return Store.begun(program_of(**more), page[0] if size is None else size, places, page, lives)


class TestErrors(unittest.TestCase):
    def test_sizes(self):
        for value in (0, -1, True, None, "40", 40.0, 7):
            with self.assertRaises(BadSize) as caught:
                Store.begun(program_of(), value, 0, None, None)
            self.assertIs(caught.exception.size, value)
            if value != 7:
                with self.assertRaises(BadCount) as caught:
                    Store.begun(program_of(), 40, value if value != "40" else "4", None, None)
        rules = PageRules(8, 4, 1, 39)
        self.assertRaises(BadSize, Store.begun, program_of(rules), 40, 4, (40, 39, ()))
        self.assertRaises(BadPage, Store.begun, program_of(rules), 39, 4, (40, 39, ()))

    def test_pages(self):
        for page in (None, [40, 40, ()], (40, 40), (40, 40, []), (40, 41, ()), (41, 41, ()), (39, 39, ()), (40, 7, ()),
                     (40, 25, ((24, 3),)), (40, 25, ((38, 3),)), (40, 25, ((30, 3), (32, 3))), (40, 25, (True,)), (40, 25, ((30, 0),)),
                     "page", 40, (True, 25, ()), (40, 19, (None, None, None))):
            with self.assertRaises(BadPage) as caught:
                Store.begun(program_of(), 40, 4, page, None)
            self.assertIs(caught.exception.page, page)

    def test_lives(self):
        for lives in (-1, 10 ** 30 + 1, True, False, None, "1", 1.0, (1,), [], {}):
            with self.assertRaises(BadLives) as caught:
                begun(lives=lives)
            self.assertIs(caught.exception.lives, lives)
        # Places are retired behind their fourth life: nothing is free then.
        four = ids_of(GIVE_FOUR, "if stamp is 0\nretire\nend", LOOK_FOUR)
        for lives in (0, 1, 3):
            self.assertEqual(begun(lives=lives, ids=four).all_places()[(0, 0)], (lives, False, False))
        for lives in (4, 5, 10 ** 30):
            self.assertRaises(BadLives, begun, lives=lives, ids=four)
            # A page without slots has no such place.
            self.assertEqual(begun((40, 40, ()), lives, ids=four).all_places(), {})
        begun(lives=10 ** 30, ids=EIGHT_IDS)

    def test_one_place_that_is_retired(self):
        some = ids_of(GIVE_EIGHT, "if slot is 3 and stamp is 2\nretire\nend", LOOK_EIGHT)
        self.assertEqual(begun(lives=1, ids=some).all_places()[(0, 3)], (1, False, False))
        self.assertRaises(BadLives, begun, lives=2, ids=some)
        self.assertEqual(begun((40, 25, PAGE[2][:3]), 2, ids=some).calls, 2)


class TestBeginnings(unittest.TestCase):
    def test_page(self):
        store = begun(ids=EIGHT_IDS)
        self.assertEqual((store.record_page(0), store.held_keys(), store.calls, store.broken), ((PAGE, 2), (0, 1), 2, None))
        self.assertEqual([store.read(0), store.read(1), store.id_of(0), store.id_of(1)], [(0, 10), (1, 3), 257, 258])
        self.assertEqual(store.all_places(), {(0, 0): (0, False, False), (0, 1): (1, True, False), (0, 2): (1, True, False),
                                              (0, 3): (0, False, False)})
        self.assertEqual((store.faults(), store.turn("undo"), store.turn("fail"), store.turn("redo")), ((), None, (), None))
        self.assertEqual([store.looked(257), store.looked(258), store.looked(256)], [(0, 10), (1, 3), None])

    def test_calls(self):
        store = begun(ids=EIGHT_IDS)
        one = store.call("enter", 5, 2)
        self.assertEqual((one.told, one.number, one.steps[0], store.read(5)), ("ok", 2, ("lay", "laid", (0, 0)), (2, 2)))
        self.assertEqual([store.call("leave", 1).told, store.call("change", 0, 8).told, store.call("enter", 0, 1).told],
                         ["ok", "ok", "twice"])
        self.assertEqual((len(store.turn("fail")), store.held_keys(), store.read(0)[1], store.faults()), (3, (0, 1), 10, ()))
        self.assertEqual(store.turn("undo"), None)

    def test_lives(self):
        for lives in (0, 1, 6, 7, 8, 1000, 10 ** 30):
            store = begun(lives=lives, ids=EIGHT_IDS, outside=True)
            stamp = (lives + 1) % 8
            self.assertEqual((store.id_of(0), store.all_places()[(0, 1)]), (stamp * 256 + 1, (stamp, True, False)))
            self.assertEqual(store.all_places()[(0, 0)], (lives % 8, False, False))
            self.assertEqual((store.call("enter", 9, 1).steps[1], store.faults()), (("give", "given", stamp * 256), ()))
        store = Store.begun(program=program_of(), size=40, places=4, page=PAGE, lives=5)
        self.assertEqual(store.id_of(0), (6 << 32) + 1)

    def test_stale_ids_of_the_page(self):
        four = ids_of(GIVE_FOUR, "", LOOK_FOUR)
        store = begun(lives=2, ids=four, outside=True, places=99)
        store.call("leave", 0)
        self.assertEqual((store.faults(), store.looked(3 * 16 + 1)), ((), None))
        for key in (5, 6):
            store.call("enter", key, 1)
        self.assertEqual(store.faults(), ())
        for _ in range(3):
            store.call("leave", 6)
            store.call("enter", 6, 1)
        # The place of key 0 was lent four times since: its first id comes again.
        self.assertEqual((store.looked(3 * 16 + 1), store.faults()), ((10, 1), (("shown", 0),)))

    def test_entries(self):
        # The entry is the class of full, and then the fit is told as a fall from full.
        marking = PUT.replace("if c < a\nno\nend", "if c < a\nholes = holes + 1\nno\nend")
        for more, marks in (({}, 0), ({"fall": 24}, 0), ({"fall": 25}, 1), ({"when": "ahead"}, 1), ({"when": "ahead", "fall": 25}, 1)):
            store = begun((40, 20, ((20, 20),)), room=room_code(**more), put=marking)
            self.assertEqual((store.call("enter", 7, 5).steps[0], store.record_page(0)[1]), (("lay", "laid", (1, 0)), marks), more)

    def test_classes_that_are_beyond(self):
        for classes, top in (("class = fit", 27), ("class = 0 - 1", 5), ("if fit < full\nclass = 0 - 1\nend", 5)):
            store = begun(room=room_code(classes, "class = 0", top=top))
            self.assertEqual((store.broken, store.held_keys(), store.faults()), (("rooms", "class"), (0, 1), ()))
        # Where the fall is not told, only the class of full is played.
        store = begun(room=room_code("if fit < full\nclass = 0 - 1\nend", "class = 0", fall=29))
        self.assertEqual(store.broken, None)
        store = begun((40, 40, ()), room=room_code("if fit < full\nclass = 0 - 1\nend", "class = 0"))
        self.assertEqual((store.broken, store.held_keys(), store.record_page(0)), (None, (), ((40, 40, ()), 0)))

    def test_no_slots_more(self):
        store = begun((8, 8, ()))
        self.assertEqual((store.call("enter", 1, 1).told, store.faults()), ("no", ()))


class TestLeastCases(unittest.TestCase):
    """Least cases of page codes come into a store, and show there as faults, or by a play that is beyond."""

    def show(self, which, text, promise, rules=PLAIN):
        make = {"put": put_code, "strike": strike_code, "stretch": set_code}[which]
        page, handed = least_page_case(make(text, rules), promise)
        self.assertIn(promise, play_page(make(text, rules), page, handed).broken)
        store = Store.begun(program_of(rules, **{which: text}), page[0], 4, page)
        self.assertEqual((store.faults(), store.broken), ((), None))
        held = [slot for slot, one in enumerate(page[2]) if one is not None]
        if which == "put":
            store.call("enter", 99, handed)
        elif which == "strike":
            store.call("leave", held.index(handed))
        else:
            store.call("change", held.index(handed[0]), handed[1])
        return store.broken, store.faults()

    def test_faults(self):
        for which, text, promise, broken, word in [
                ("put", PUT.replace("own.len = len", "own.len = len + 1"), "owed", None, "long"),
                ("put", PUT.replace("\nlay low", ""), "owed", None, "spoilt"), ("put", PUT + "\nlow = low - 1", "lawful", None,
                                                                                "page"), ("strike", TWICE, "books", None, "page"),
                ("strike", "", "owed", None, "stray"), ("put", PUT.replace("lay low", "lay low + 1"), "inside", ("pages", "put"), "stray"),
                ("stretch", STRETCH.replace("own.len = len", "own.len = len + 1"), "owed", None, "long"),
                ("stretch", STRETCH.replace("\nlay low", ""), "owed", None, "spoilt"),
                ("stretch", STRETCH.replace("pack\n", ""), "whole", None, "spoilt"),
                ("strike", SHRINK.replace("if own is last\n", "").replace("slots - 1\nend", "slots - 1"), "owed", None, "lost"),
                ("strike", STRIKE.replace("a = room own.len\nclear own", "clear own\na = room own.len"), "inside", ("pages", "strike"),
                 "lost")]:
            told, faults = self.show(which, text, promise)
            self.assertEqual(told, broken, text)
            self.assertIn(word, [one[0] for one in faults], text)


if __name__ == "__main__":
    unittest.main()
