"""[50] to [58]: stores, call by call."""

import unittest

from heldplaces.errors import BadCount, BadKey, BadLength, BadName, BadNumber, BadSize, Beyond, Broken, NoCursor, TooMany
from heldplaces.pagerules import PageRules
from heldplaces.store import CallTold, Store
from samples import (
    CHANGE, COPY, ENTER, FIND, GIVE_EIGHT, GIVE_FOUR, LEAVE, LESS, LOOK_EIGHT, LOOK_FOUR, MOVE, NOTE, PUT, REDO, SHORT, STRETCH, STRIKE,
    book_codes, deed_codes, ids_of, program_of, room_code)

NONE = [True, False, None, "3", 1.0, (3,), [], {}, 0, -1]
# A put that is refused leaves a mark in the holes of the page: so one sees where it was tried.
MARKING = PUT.replace("if c < a\nno\nend", "if c < a\nholes = holes + 1\nno\nend")
EIGHT_IDS = ids_of(GIVE_EIGHT, "", LOOK_EIGHT)


def store_of(size=40, places=4, **more):
    return Store(program_of(**more), size, places)


def answers(store, *calls):
    """The answers of several calls."""
    return [store.call(*call).told for call in calls]


def pages_of(store):
    """The rows of the lengths of all pages."""
    found = []
    while True:
        try:
            (_, _, row), _ = store.record_page(len(found))
        except BadNumber:
            return found
        found.append(tuple(None if one is None else one[1] for one in row))


class TestMaking(unittest.TestCase):
    def test_sizes(self):
        for value in NONE + [7]:
            with self.assertRaises(BadSize) as caught:
                Store(program_of(), value, 0)
            self.assertIs(caught.exception.size, value)
        rules = PageRules(8, 4, 4, 39)
        for value in (42, 43, 44, 4):
            self.assertRaises(BadSize, Store, program_of(rules), value, 4)
        self.assertTrue(rules.in_use(40))
        self.assertRaises(BadSize, Store, program_of(rules), 40, 4)
        self.assertEqual(Store(program_of(rules), 36, 4).calls, 0)
        self.assertEqual(Store(program_of(PageRules(8, 4, 4, 40)), 40, 4).calls, 0)

    def test_places(self):
        for value in NONE:
            with self.assertRaises(BadCount) as caught:
                Store(program_of(), 40, value)
            self.assertIs(caught.exception.many, value)
        self.assertRaises(BadCount, Store, program_of(book=book_codes(LESS)), 40, 1)
        store = Store(places=2, size=8, program=program_of(book=book_codes(LESS)))
        self.assertEqual((store.calls, store.broken, store.held_keys(), store.all_places(), store.faults(), pages_of(store)),
                         (0, None, (), {}, (), []))
        self.assertEqual(store.call("enter", 1, 1).told, "no")


class TestExample(unittest.TestCase):
    def test_example(self):
        store = store_of()
        told = store.call("enter", 7, 10)
        self.assertIsInstance(told, CallTold)
        self.assertEqual([told.told, told.steps[1], store.read(7), store.record_page(0)],
                         ["ok", ("give", "given", 4294967296), (0, 10), ((40, 30, ((30, 10),)), 0)])
        more = [store.call("enter", 5, 14).told, store.call("enter", 6, 40).told, store.call("enter", 7, 1).told]
        self.assertEqual([more, store.held_keys()], [["ok", "no", "twice"], (5, 7)])
        gone = [store.call("leave", 7).told, store.turn("undo"), store.turn("close")]
        self.assertEqual([gone, store.looked(4294967296), store.faults()], [["ok", None, None], None, ()])
        turned = [len(store.turn("undo")), store.held_keys(), len(store.turn("redo"))]
        self.assertEqual([turned, store.held_keys(), store.calls], [[3, (), 3], (5,), 11])


class TestErrors(unittest.TestCase):
    def refused(self, error, store, *call):
        before = store.calls
        with self.assertRaises(error) as caught:
            store.call(*call)
        self.assertEqual(store.calls, before)
        return caught.exception

    def test_names(self):
        store = store_of()
        for word in ("", "Enter", "note", "close", None, True, 3, ["enter"], ("enter",), {}):
            self.assertIs(self.refused(BadName, store, word, None, None).name, word)
            with self.assertRaises(BadName) as caught:
                store.turn(word if word != "close" else "note")
            self.assertTrue(caught.exception.name is word or word == "close")

    def test_keys(self):
        store = store_of(pages=200)
        for key in (10 ** 30, -10 ** 30, True, False, None, "3", 3.0, (3,), [], {}):
            self.assertIs(self.refused(BadKey, store, "enter", key, None).key, key)
            self.assertIs(self.refused(BadKey, store, "leave", key, 3).key, key)
        for key in (10 ** 30 - 1, 1 - 10 ** 30, 0, -3):
            self.assertEqual(store.call("enter", key, 3).told, "ok")
        self.assertEqual(store.held_keys(), (1 - 10 ** 30, -3, 0, 10 ** 30 - 1))

    def test_lengths(self):
        store = store_of()
        for word in ("enter", "change"):
            for length in NONE:
                self.assertIs(self.refused(BadLength, store, word, 3, length).length, length)
            self.refused(BadLength, store, word, 3)
        for length in (3, 0, -1, True, False, "", ()):
            self.assertIs(self.refused(BadLength, store, "leave", 3, length).length, length)
        self.assertEqual(store.call(word="leave", key=3).told, "gone")
        self.assertEqual(store.call("leave", 3, None).told, "gone")

    def test_broken_store(self):
        store = store_of(deeds=deed_codes(enter="give h p"))
        self.assertEqual([store.call("enter", 1, 1).told, store.broken], [None, ("deeds", "enter")])
        for word in ("enter", "leave", "change"):
            self.assertEqual(self.refused(Broken, store, word, 1, None if word == "leave" else 1).part, "deeds")
        self.refused(BadName, store, "x", 1, 1)
        self.refused(BadKey, store, "enter", None, 1)
        self.refused(BadLength, store, "enter", 1, 0)
        for word in ("close", "fail", "undo", "redo"):
            with self.assertRaises(Broken) as caught:
                store.turn(word)
            self.assertEqual(caught.exception.part, "deeds")
        self.assertRaises(BadName, store.turn, "note")
        self.assertEqual((store.held_keys(), store.faults(), store.new_cursor(), store.go_on(0)), ((), (), 0, None))

    def test_many_keys(self):
        store = store_of(8192, 1)
        for key in range(1000):
            self.assertEqual(store.call("enter", key, 1).told, "ok")
            store.turn("close")
        for key in (5, 1000):
            told = self.refused(TooMany, store, "enter", key, 1)
            self.assertEqual((told.what, told.many, told.most), ("keys", 1001, 1000))
        self.refused(BadLength, store, "enter", 5, 0)
        self.assertEqual(answers(store, ("change", 5, 2)), ["ok"])
        store.turn("close")
        self.assertEqual(answers(store, ("leave", 5)), ["ok"])
        store.turn("close")
        self.assertEqual(answers(store, ("enter", 6, 1), ("enter", 5, 1)), ["twice", "ok"])
        self.assertEqual(store.faults(), ())

    def test_numbers(self):
        store = store_of()
        store.call("enter", 1, 1)
        for value in (True, False, None, "0", 0.0, (0,), [], -1, 1, 10 ** 30):
            with self.assertRaises(BadNumber) as caught:
                store.record_page(value)
            self.assertIs(caught.exception.number, value)
        for value in (True, False, None, "0", 0.0, (0,), []):
            with self.assertRaises(BadNumber) as caught:
                store.looked(value)
            self.assertIs(caught.exception.number, value)
        self.assertEqual([store.looked(number=value) for value in (-1, 0, 10 ** 60, 1 << 32)], [None, None, None, (0, 1)])
        self.assertEqual(store.record_page(number=0), ((40, 39, ((39, 1),)), 0))


class TestCalls(unittest.TestCase):
    def test_steps(self):
        store = store_of(ids=EIGHT_IDS)
        one = store.call("enter", 3, 10)
        self.assertEqual((one.told, one.number, one.steps),
                         ("ok", 0, (("lay", "laid", (0, 0)), ("give", "given", 256), ("enter", None, 256))))
        one = store.call("change", 3, 12)
        self.assertEqual((one.told, one.number, one.steps),
                         ("ok", 1, (("find", "there", 256), ("look", "held", (0, 0)), ("stretch", "stretched", (0, 0)))))
        one = store.call("change", 3, 29)
        self.assertEqual((one.told, one.number, one.steps[2]), ("no", 2, ("stretch", "full", (0, 0))))
        one = store.call("leave", 3)
        self.assertEqual((one.told, one.number, one.steps), ("ok", 3, (
            ("find", "there", 256), ("look", "held", (0, 0)), ("strike", "struck", (0, 0)), ("free", "freed", (0, 0)),
            ("leave", None, None))))
        one = store.call("enter", 4, 29)
        self.assertEqual((one.told, one.steps), ("no", (("lay", "full", None),)))
        self.assertEqual([(store.call(*call).told, store.call(*call).steps) for call in (("leave", 3), ("change", 3, 1))],
                         [("gone", ())] * 2)
        self.assertEqual(store.calls, 9)

    def test_unhappy_steps(self):
        text = "find h\nlay p\ngive h p\nfree p\nfree p\nlook h q\nenter h\nleave\nfind i"
        store = store_of(ids=EIGHT_IDS, deeds=deed_codes(enter=text))
        one = store.call("enter", 3, 10)
        self.assertEqual(one.steps, (
            ("find", "none", None), ("lay", "laid", (0, 0)), ("give", "given", 256), ("free", "freed", (0, 0)), ("free", "unlent", (0, 0)),
            ("look", "stale", None), ("enter", None, 256), ("leave", None, None), ("find", "none", None)))
        self.assertEqual((one.told, store.held_keys(), store.faults()), ("ok", (), (("missing", 3), ("stray", 0, 0))))
        store = store_of(ids=EIGHT_IDS, deeds=deed_codes(enter="lay p\nstrike p\nstrike p\nstretch p\nfree p\nleave\nquit no"))
        self.assertEqual(store.call("enter", 3, 10).steps, (
            ("lay", "laid", (0, 0)), ("strike", "struck", (0, 0)), ("strike", "bare", (0, 0)), ("stretch", "bare", (0, 0)),
            ("free", "unlent", (0, 0)), ("leave", None, None)))
        self.assertEqual((store.faults(), store.all_places()), ((), {}))

    def test_retired(self):
        store = store_of(ids=ids_of(GIVE_FOUR, "if stamp is 3\nretire\nend", LOOK_FOUR), pages=1, places=9)
        self.assertEqual(answers(store, *[("enter", 1, 1), ("leave", 1)] * 3), ["ok"] * 6)
        one = store.call("enter", 1, 1)
        self.assertEqual((one.told, one.steps), ("no", (("lay", "laid", (0, 0)), ("give", "out", None), ("strike", "struck", (0, 0)))))
        self.assertEqual((store.all_places(), store.faults()), ({(0, 0): (3, False, True)}, ()))

    def test_given_to_a_lent_place(self):
        store = store_of(ids=EIGHT_IDS, deeds=deed_codes(change=FIND + "give i p\nenter i"))
        self.assertEqual(answers(store, ("enter", 1, 1)), ["ok"])
        one = store.call("change", 1, 5)
        self.assertEqual((one.told, one.steps[2:]), ("ok", (("give", "given", 512), ("enter", None, 512))))
        self.assertEqual((store.id_of(1), store.all_places(), store.looked(256), store.read(1)),
                         (512, {(0, 0): (2, True, False)}, None, (0, 1)))
        self.assertEqual(store.faults(), (("spoilt", 1),))

    def test_own_none(self):
        # A put that is done without a slot leaves no place.
        store = store_of(put="lay low - len", deeds=deed_codes(enter="lay p"))
        one = store.call("enter", 1, 3)
        self.assertEqual((one.told, one.steps, pages_of(store)), ("ok", (("lay", "laid", None),), [()]))
        store = store_of(put="lay low - len")
        one = store.call("enter", 1, 3)
        self.assertEqual((one.told, one.steps, store.broken), (None, (("lay", "laid", None),), ("deeds", "enter")))

    def test_copies_of_registers(self):
        text = "lay q\np = q\ngive i p\nh = i\nq = p\ni = h\nenter i\nstrike q"
        store = store_of(ids=EIGHT_IDS, deeds=deed_codes(enter=text))
        self.assertEqual(store.call("enter", 1, 3).steps[2:], (("enter", None, 256), ("strike", "struck", (0, 0))))
        self.assertEqual(store.faults(), (("lost", 1),))

    def test_long_calls(self):
        store = store_of(places=2)
        self.assertEqual(answers(store, ("enter", 1, 1), ("enter", 2, 2)), ["ok", "ok"])
        one = store.call("enter", 3, 3)
        self.assertEqual((one.told, one.number, one.steps[0], store.calls, store.held_keys()),
                         ("long", 2, ("lay", "laid", (0, 2)), 4, (1, 2)))
        one = store.call("leave", 1)
        self.assertEqual((one.told, one.number, len(one.steps), store.calls, store.read(1)), ("long", 4, 5, 6, (5, 1)))
        one = store.call("change", 2, 9)
        self.assertEqual((one.told, one.number, store.calls, store.read(2)), ("long", 6, 8, (7, 2)))
        self.assertEqual((answers(store, ("change", 2, 99), ("enter", 2, 1), ("leave", 7)), store.calls, store.faults()),
                         (["no", "twice", "gone"], 11, ()))

    def test_long_calls_that_cannot_be_taken_back(self):
        store = store_of(places=1, deeds=deed_codes(leave=LEAVE + "\nquit no"))
        self.assertEqual(answers(store, ("enter", 1, 1), ("enter", 2, 2)), ["ok", "long"])
        self.assertEqual((store.broken, store.calls, store.held_keys()), (("torn", "leave"), 3, (1,)))
        store = store_of(places=1, deeds=deed_codes(enter=ENTER + "\nquit no"))
        self.assertEqual(answers(store, ("enter", 1, 1), ("change", 1, 3), ("leave", 1)), ["no", "ok", "long"])
        self.assertEqual((store.broken, store.calls, store.held_keys()), (("torn", "enter"), 4, (1,)))
        # The old length is the wanted one: here the key was never wanted.
        store = store_of(places=1, deeds=deed_codes(enter=ENTER + "\nquit no"))
        self.assertEqual(answers(store, ("enter", 1, 1), ("enter", 2, 1), ("change", 1, 3), ("change", 2, 4)), ["no", "no", "ok", "long"])
        self.assertEqual((store.broken, store.calls), (("torn", "change"), 4))

    def test_book_beyond(self):
        store = store_of(book=book_codes(note="many = size + 1"))
        one = store.call("enter", 1, 1)
        self.assertEqual((one.told, one.number, store.calls, store.broken, store.held_keys()), ("ok", 0, 1, ("book", "note"), (1,)))
        self.assertRaises(Broken, store.call, "enter", 2, 1)

    def test_nothing_changes_behind_no(self):
        store = store_of(pages=1)
        answers(store, ("enter", 1, 5), ("enter", 2, 5))
        before = (store.held_keys(), store.read(1), store.read(2), store.id_of(1), store.id_of(2), store.record_page(0), store.all_places())
        self.assertEqual(answers(store, ("enter", 3, 20), ("change", 1, 20), ("enter", 1, 1), ("leave", 3)), ["no", "no", "twice", "gone"])
        self.assertEqual(before, (store.held_keys(), store.read(1), store.read(2), store.id_of(1), store.id_of(2), store.record_page(0),
                                  store.all_places()))


class TestLay(unittest.TestCase):
    def test_least_entries_first(self):
        store = store_of(pages=3)
        self.assertEqual(answers(store, ("enter", 1, 10), ("enter", 2, 20)), ["ok", "ok"])
        # The pages fit 14 and 4 now.
        self.assertEqual(store.call("enter", 3, 4).steps[0], ("lay", "laid", (1, 1)))
        self.assertEqual(store.call("enter", 4, 4).steps[0], ("lay", "laid", (0, 1)))
        self.assertEqual(pages_of(store), [(10, 4), (20, 4)])

    def test_equal_entries(self):
        store = store_of(places=9, pages=3)
        answers(store, ("enter", 1, 20), ("enter", 2, 20), ("enter", 3, 20))
        self.assertEqual([store.call("enter", key, 4).steps[0][2] for key in (4, 5, 6)], [(0, 1), (1, 1), (2, 1)])
        self.assertEqual(store.call("enter", 7, 1).steps, (("lay", "full", None),))

    def test_new_pages(self):
        store = store_of(pages=2)
        self.assertEqual(answers(store, ("enter", 1, 28), ("enter", 2, 28), ("enter", 3, 28), ("enter", 4, 1)), ["ok", "ok", "no", "no"])
        self.assertEqual((pages_of(store), store.record_page(1)), ([(28,), (28,)], ((40, 12, ((12, 28),)), 0)))

    def test_above_full(self):
        # Behind a length above full no ask is played, and no put.
        store = store_of(room=room_code(asks="if 28 < len\nclass = bits 0 - 1\nend\nclass = 0", top=28), put=MARKING)
        self.assertEqual((answers(store, ("enter", 1, 29), ("enter", 1, 10 ** 30)), store.broken, pages_of(store)),
                         (["no", "no"], None, []))

    def test_new_page_that_is_not_kept(self):
        store = store_of(put="no")
        self.assertEqual((store.call("enter", 1, 1).steps, pages_of(store)), ((("lay", "full", None),), []))

    def test_classes(self):
        store = store_of(pages=2, room=room_code("class = fit // 8", "class = len + 7 // 8"), put=MARKING)
        self.assertEqual(answers(store, ("enter", 1, 15), ("enter", 2, 9)), ["ok", "ok"])
        # Page 0 fits 9, but its entry is 1: a length of 9 asks for 2.
        self.assertEqual((pages_of(store), store.record_page(0)[1]), ([(15,), (9,)], 0))
        store = store_of(pages=2, room=room_code("class = fit // 8", "class = len // 8"), put=MARKING)
        self.assertEqual(answers(store, ("enter", 1, 16), ("enter", 2, 9)), ["ok", "ok"])
        # Page 0 fits 8: it is offered, and put is refused there.
        self.assertEqual((pages_of(store), store.record_page(0)[1]), ([(16,), (9,)], 1))

    def test_look(self):
        for look, holes in (("", 1), ("\nlook", 0)):
            store = store_of(pages=2, room=room_code("class = fit // 8", "class = len // 8" + look), put=MARKING)
            answers(store, ("enter", 1, 16), ("enter", 2, 9))
            self.assertEqual((pages_of(store), store.record_page(0)[1]), ([(16,), (9,)], holes))

    def test_order_is_settled_ahead(self):
        # All pages have the entry 0, and are tried by their numbers, though the first one is told while they are tried.
        store = store_of(pages=3, room=room_code("class = 0", "class = 0"), put=MARKING)
        answers(store, ("enter", 1, 20), ("enter", 2, 16), ("enter", 3, 24), ("enter", 4, 8))
        self.assertEqual((pages_of(store), [store.record_page(k)[1] for k in range(3)]), ([(20,), (16, 8), (24,)], [3, 1, 0]))

    def test_untold_falls(self):
        for fall, marks in ((0, 0), (23, 0), (24, 0), (25, 1)):
            store = store_of(pages=2, room=room_code(fall=fall), put=MARKING)
            answers(store, ("enter", 1, 20), ("enter", 2, 10))
            # The fit went from 28 to 4.
            self.assertEqual((pages_of(store), store.record_page(0)[1]), ([(20,), (10,)], marks), fall)

    def test_untold_rises(self):
        for rise, page in ((0, 0), (24, 0), (25, 1)):
            store = store_of(pages=2, places=9, room=room_code(rise=rise))
            answers(store, ("enter", 1, 20), ("leave", 1))
            # The fit went from 4 to 28, as the slot stays: nobody lies in it.
            self.assertEqual(store.call("enter", 2, 20).steps[0], ("lay", "laid", (page, 0)))

    def test_ahead(self):
        store = store_of(pages=2, room=room_code(when="ahead"), put=MARKING)
        answers(store, ("enter", 1, 20))
        # A fall from 28 to 4 tells 28, so page 0 is offered for 10 as well; the put that is refused there changes no fit.
        answers(store, ("enter", 2, 10))
        self.assertEqual((pages_of(store), store.record_page(0)[1]), ([(20,), (10,)], 1))
        # A length of 2 is laid into page 1, which has the entry 28 and no lesser number than page 0: equal ones.
        self.assertEqual(store.call("enter", 3, 2).steps[0], ("lay", "laid", (0, 1)))
        # Now page 0 was told with 4.
        self.assertEqual(store.call("enter", 4, 5).steps[0], ("lay", "laid", (1, 1)))

    def test_refused_plays_are_told(self):
        # A put that is refused for a length of 5, but leaves its record there.
        put = "take next\nslots = slots + 1\nown.at = size - len\nown.len = len\nlay size - len\nif len is 5\nno\nend"
        store = store_of(60, pages=2, put=put)
        self.assertEqual(answers(store, ("enter", 1, 3), ("enter", 2, 5)), ["ok", "no"])
        self.assertEqual(pages_of(store), [(3, 5)])
        # The page fits 32 now, and no more 41.
        self.assertEqual(store.call("enter", 3, 33).steps[0], ("lay", "laid", (1, 0)))
        self.assertEqual(store.call("enter", 4, 32).steps[0], ("lay", "laid", (0, 2)))

    def test_what_fits(self):
        # Told is what would fit into the page if all its holes were in one place, with a slot more if none is empty.
        store = store_of(60, 9, pages=2)
        answers(store, ("enter", 1, 10), ("enter", 2, 10), ("enter", 3, 9), ("leave", 2))
        self.assertEqual(store.call("enter", 4, 22).steps[0], ("lay", "laid", (1, 0)))
        self.assertEqual(store.call("enter", 5, 21).steps[0], ("lay", "laid", (0, 1)))
        self.assertEqual(store.record_page(0)[0], (60, 20, ((50, 10), (20, 21), (41, 9))))


class TestNames(unittest.TestCase):
    def test_names(self):
        store = store_of()
        answers(store, ("enter", 1, 3), ("enter", 2, 4), ("change", 1, 5), ("change", 2, 99), ("leave", 9))
        self.assertEqual([store.read(1), store.read(2), store.read(3), store.read(key=1)], [(2, 5), (1, 4), None, (2, 5)])
        self.assertEqual(store.looked(store.id_of(2)), (1, 4))

    def test_spoilt(self):
        # The second record is laid upon the last byte of the first one.
        store = store_of(put=PUT.replace("own.at = low\nown.len = len\nlay low",
                                         "c = low\nif slots is 2\nc = low + 1\nend\nown.at = c\nown.len = len\nlay c"))
        self.assertEqual(answers(store, ("enter", 1, 10), ("enter", 2, 5)), ["ok", "ok"])
        self.assertEqual([store.record_page(0), store.read(1), store.read(2)], [((40, 25, ((30, 10), (26, 5))), 0), (None, 10), (1, 5)])
        self.assertEqual(store.faults(), (("page", 0), ("spoilt", 1)))

    def test_not_written(self):
        # The record is told in its slot, but its bytes are not laid.
        store = store_of(put=PUT.replace("\nlay low", ""))
        answers(store, ("enter", 1, 3))
        self.assertEqual((store.read(1), store.faults()), ((None, 3), (("spoilt", 1),)))
        # Laid in another place.
        store = store_of(put=PUT.replace("lay low", "lay low - 1"))
        answers(store, ("enter", 1, 3))
        self.assertEqual((store.read(1), store.faults()), ((None, 3), (("spoilt", 1),)))

    def test_strikes_that_strike_nothing(self):
        store = store_of(strike="")
        answers(store, ("enter", 1, 3), ("leave", 1))
        self.assertEqual((pages_of(store), store.faults()), ([(3,)], (("stray", 0, 0),)))
        store = store_of(strike="holes = holes", deeds=deed_codes(leave=FIND + "strike p"))
        answers(store, ("enter", 1, 3), ("leave", 1))
        self.assertEqual((store.read(1), store.faults()), ((None, 3), (("extra", 1),)))
        store = store_of(strike="a = room own.len", deeds=deed_codes(leave=FIND + "strike p"))
        answers(store, ("enter", 1, 3), ("leave", 1))
        self.assertEqual((store.read(1), store.faults()), ((0, 3), (("extra", 1),)))

    def test_sets(self):
        for text, name, length, told in [("no", 0, 3, "no"), ("own.len = len\nno", None, 9, "no"), ("own.len = len", None, 9, "ok"),
                                         ("", 0, 3, "ok"), ("lay own.at - 6\nown.at = own.at - 6\nown.len = len", 1, 9, "ok"),
                                         ("lay own.at - 6\nno", None, 3, "no"), ("lay own.at - 6\nown.at = own.at - 6\nno", 1, 3, "no")]:
            store = store_of(stretch=text)
            self.assertEqual(answers(store, ("enter", 1, 3), ("change", 1, 9)), ["ok", told])
            self.assertEqual(store.read(1), (name, length), text)

    def test_beyond(self):
        # A line that is beyond does not count, what was played ahead does.
        for text, told in [("own.len = 0", (0, 3)), ("lay size", (0, 3)), ("lay 0 - 1", (0, 3)), ("holes = 0 - 1", (0, 3)),
                           ("own.len = len\nholes = 0 - 1", (None, 9)), ("clear own\na = own.len", None), ("pack\nlay size", (None, 3)),
                           ("lay 30\nown.at = 30\nholes = 0 - 1", (1, 3)), ("a = 1\nlay size", (0, 3))]:
            store = store_of(stretch=text)
            one = [store.call("enter", 1, 3), store.call("change", 1, 9)][1]
            self.assertEqual((one.told, one.steps, store.broken),
                             (None, (("find", "there", 1 << 32), ("look", "held", (0, 0))), ("pages", "set")), text)
            self.assertEqual(store.read(1), (None, None) if told is None else told, text)

    def test_moved_records_keep_names(self):
        store = store_of(60, places=9)
        answers(store, ("enter", 1, 10), ("enter", 2, 10), ("leave", 1), ("enter", 3, 25))
        self.assertEqual((store.record_page(0), store.read(2), store.read(3)), (((60, 25, ((25, 25), (50, 10))), 0), (1, 10), (3, 25)))
        self.assertEqual(store.faults(), ())


class TestTurns(unittest.TestCase):
    def test_fail(self):
        store = store_of(places=5)
        answers(store, ("enter", 1, 3), ("change", 1, 5), ("enter", 2, 4), ("leave", 1))
        told = store.turn("fail")
        self.assertEqual([(one.told, one.number) for one in told], [("ok", 4), ("ok", 5), ("ok", 6), ("ok", 7)])
        self.assertEqual([one.steps[-1][0] for one in told], ["enter", "leave", "stretch", "leave"])
        self.assertEqual((store.held_keys(), store.calls, store.turn(word="fail"), store.turn("undo"), store.faults()),
                         ((), 8, (), None, ()))

    def test_undo_and_redo(self):
        store = store_of(places=5)
        answers(store, ("enter", 1, 3), ("enter", 2, 4))
        self.assertEqual([store.turn("undo"), store.turn("redo"), store.turn("close")], [None, None, None])
        answers(store, ("change", 1, 7), ("leave", 2))
        store.turn("close")
        self.assertEqual([one.told for one in store.turn("undo")], ["ok", "ok"])
        self.assertEqual((store.held_keys(), store.read(1)[1], store.read(2)[1]), ((1, 2), 3, 4))
        self.assertEqual([one.told for one in store.turn("undo")], ["ok", "ok"])
        self.assertEqual((store.held_keys(), store.turn("undo")), ((), None))
        self.assertEqual([len(store.turn("redo")), store.held_keys(), len(store.turn("redo")), store.held_keys(), store.turn("redo")],
                         [2, (1, 2), 2, (1,), None])
        self.assertEqual((store.read(1)[1], store.faults()), (7, ()))

    def test_a_call_forgets_what_was_undone(self):
        store = store_of(places=5)
        answers(store, ("enter", 1, 3))
        store.turn("close")
        store.turn("undo")
        answers(store, ("enter", 2, 3))
        store.turn("close")
        self.assertEqual((store.turn("redo"), store.held_keys()), (None, (2,)))

    def test_whole_groups_are_forgotten(self):
        store = store_of(places=3)
        answers(store, ("enter", 1, 1), ("enter", 2, 1))
        store.turn("close")
        answers(store, ("enter", 3, 1), ("enter", 4, 1))
        store.turn("close")
        self.assertEqual([len(store.turn("undo")), store.turn("undo"), store.held_keys()], [2, None, (1, 2)])

    def test_groups_of_all_places(self):
        store = store_of(places=3)
        answers(store, ("enter", 1, 1), ("enter", 2, 1), ("enter", 3, 1))
        self.assertEqual(([one.told for one in store.turn("fail")], store.held_keys()), (["ok"] * 3, ()))

    def test_until_the_mark(self):
        store = store_of(places=3, book=book_codes(fail="many = many - own\nback until mark\nown = 0"))
        answers(store, ("enter", 1, 1), ("enter", 2, 1), ("enter", 3, 1))
        self.assertEqual((store.turn("fail"), store.held_keys()), ((), (1, 2, 3)))

    def test_rows_that_were_never_written(self):
        store = store_of(places=4, book=book_codes(fail="back size times"))
        answers(store, ("enter", 1, 1))
        told = store.turn("fail")
        self.assertEqual(([one.told for one in told], store.broken, store.held_keys()), (["ok"], None, ()))

    def test_refused(self):
        store = store_of(book=book_codes(fail="no", undo="no", redo="no"))
        answers(store, ("enter", 1, 1))
        self.assertEqual(store.turn("fail"), None)
        store.turn("close")
        self.assertEqual([store.turn(word) for word in ("undo", "redo", "fail", "close")], [None] * 4)

    def test_book_beyond(self):
        for word, text in (("fail", "back 1 times\nmany = 9"), ("undo", "a = sealed mark\nback 1 times"), ("redo", "again 9 times")):
            store = store_of(book=book_codes(**{word: text}))
            answers(store, ("enter", 1, 1))
            if word != "fail":
                store.turn("close")
            self.assertEqual((store.turn(word), store.broken, store.held_keys(), store.calls), ((), ("book", word), (1,), 1), word)

    def test_torn(self):
        # Changing back is refused.
        store = store_of(places=5, deeds=deed_codes(change=CHANGE + "\nfind h\non there\nend"), stretch=STRETCH)
        answers(store, ("enter", 1, 20), ("change", 1, 5), ("enter", 2, 15), ("enter", 3, 28))
        self.assertEqual(store.turn("close"), None)
        self.assertEqual(len(store.turn("undo")), 4)
        self.assertEqual(store.broken, None)
        store = store_of(places=5, deeds=deed_codes(leave=LEAVE.replace("leave", "quit no")))
        answers(store, ("enter", 1, 3), ("enter", 2, 3))
        told = store.turn("fail")
        self.assertEqual(([one.told for one in told], store.broken, store.calls), (["no"], ("torn", "leave"), 3))
        with self.assertRaises(Broken) as caught:
            store.call("enter", 5, 5)
        self.assertEqual(caught.exception.part, "torn")

    def test_torn_by_room(self):
        # Two keys leave in one group, and undone they come in another order, into pages that have no room then.
        store = store_of(places=9, pages=1)
        answers(store, ("enter", 1, 3), ("change", 1, 20), ("change", 1, 2), ("enter", 2, 10))
        store.turn("close")
        told = store.turn("undo")
        self.assertEqual([one.told for one in told], ["ok"] * 4)
        self.assertEqual(store.faults(), ())

    def test_calls_that_are_not_ok(self):
        for deeds, calls, told, broken in [
                ({"leave": "quit ok"}, [("enter", 1, 3)], ["ok"], None),
                ({"enter": "lay p\ngive h p"}, [("enter", 1, 3)], ["gone"], ("torn", "leave")),
                ({"leave": "strike p"}, [("enter", 1, 3)], [None], ("deeds", "leave"))]:
            store = store_of(deeds=deed_codes(**deeds))
            answers(store, *calls)
            turned = store.turn("fail")
            self.assertEqual(([one.told for one in turned], store.broken), (told, broken))
        store = store_of(deeds=deed_codes(leave=LEAVE.replace("\nleave", "")))
        answers(store, ("enter", 1, 3), ("leave", 1))
        self.assertEqual(([one.told for one in store.turn("fail")], store.broken), (["twice"], ("torn", "enter")))

    def test_length_that_would_be_none(self):
        store = store_of(deeds=deed_codes(enter=ENTER + "\nquit no"))
        answers(store, ("enter", 1, 3), ("enter", 2, 3), ("leave", 2), ("change", 1, 5))
        self.assertEqual((store.turn("fail"), store.broken, store.calls), ((), ("torn", "change"), 4))
        store = store_of(deeds=deed_codes(enter=ENTER + "\nquit no"))
        answers(store, ("enter", 1, 3), ("enter", 2, 3), ("leave", 2), ("change", 1, 5), ("change", 1, 6))
        told = store.turn("fail")
        self.assertEqual(([one.told for one in told], store.broken, store.read(1)), (["ok"], ("torn", "change"), (5, 5)))
        self.assertEqual((store.held_keys(), store.calls, store.faults()), ((1,), 6, ()))

    def test_wrong_rows(self):
        # Redo does the rows again the wrong way: the book of this program goes on from next by all places.
        store = store_of(places=2, book=book_codes(redo=REDO.replace("again b times", "again 1 times")))
        answers(store, ("enter", 1, 3), ("enter", 2, 3))
        store.turn("close")
        store.turn("undo")
        self.assertEqual(([one.told for one in store.turn("redo")], store.held_keys()), (["ok"], (1,)))

    def test_turn_with_note_that_forgets_one_row(self):
        note = NOTE.replace("a = wrap next - many\nb = sealed a\nmany = many - b", "many = many - 1")
        store = store_of(places=3, book=book_codes(note=note))
        answers(store, ("enter", 1, 1), ("enter", 2, 1))
        store.turn("close")
        answers(store, ("enter", 3, 1), ("enter", 4, 1))
        store.turn("close")
        self.assertEqual(len(store.turn("undo")), 2)
        # Half a group is left, of which the last row tells two: more than there are.
        self.assertEqual((store.turn("undo"), store.broken, store.held_keys()), ((), ("book", "undo"), (1, 2)))


class TestFaults(unittest.TestCase):
    def faults(self, calls, **more):
        store = store_of(**more)
        answers(store, *calls)
        return store.faults()

    def test_page(self):
        self.assertEqual(self.faults([("enter", 1, 3)], put=PUT + "\nholes = 1"), (("page", 0),))
        self.assertEqual(self.faults([("enter", 1, 28)], put=SHORT, pages=3), ())
        self.assertEqual(self.faults([("enter", 1, 3), ("enter", 2, 28)], put=PUT + "\nholes = 1"), (("page", 0), ("page", 1)))
        self.assertEqual(self.faults([("enter", 1, 3), ("leave", 1)], strike=STRIKE + "\nlow = low + 2"), (("page", 0),))

    def test_missing_and_extra(self):
        self.assertEqual(self.faults([("enter", 1, 3)], deeds=deed_codes(enter="quit ok")), (("missing", 1),))
        self.assertEqual(self.faults([("enter", 1, 3)], deeds=deed_codes(enter=ENTER + "\nquit no")), (("extra", 1),))
        self.assertEqual(self.faults([("enter", 1, 3), ("leave", 1)], deeds=deed_codes(leave="")), (("extra", 1),))

    def test_lost(self):
        self.assertEqual(self.faults([("enter", 1, 3)], deeds=deed_codes(enter=ENTER + "\nfree p")), (("lost", 1), ("stray", 0, 0)))
        self.assertEqual(self.faults([("enter", 1, 3)], deeds=deed_codes(enter=ENTER + "\nstrike p")), (("lost", 1),))
        # A look that is beyond counts as refused.
        beyond = ids_of(GIVE_EIGHT, "", "page = 99\na = stamp\naccept")
        self.assertEqual(self.faults([("enter", 1, 3)], ids=beyond), (("lost", 1), ("lent", 0, 0), ("stray", 0, 0)))

    def test_spoilt_and_long(self):
        self.assertEqual(self.faults([("enter", 1, 3)], put=PUT.replace("\nlay low", "")), (("spoilt", 1),))
        self.assertEqual(self.faults([("enter", 1, 3)], put=PUT.replace("own.len = len", "own.len = len + 1").replace("low = low - a",
                                                                                                                      "low = low - a - 1")),
                         (("long", 1),))
        # Spoilt comes ahead of long.
        self.assertEqual(self.faults([("enter", 1, 3), ("change", 1, 5)], deeds=deed_codes(change="")), (("spoilt", 1),))

    def test_alike(self):
        # The second id has no stamp and no slot: both are the same number.
        same = ids_of("word = 5", "", "page = 0\nslot = 0\nif lent\naccept\nend", 0)
        self.assertEqual(self.faults([("enter", 3, 3), ("enter", 1, 4), ("enter", 2, 5)], ids=same),
                         (("spoilt", 1), ("spoilt", 2), ("alike", 2), ("alike", 3), ("lent", 0, 1), ("lent", 0, 2), ("stray", 0, 1),
                          ("stray", 0, 2)))

    def test_lent_and_stray(self):
        self.assertEqual(self.faults([("enter", 1, 3)], deeds=deed_codes(enter="lay p\ngive h p")),
                         (("missing", 1), ("lent", 0, 0), ("stray", 0, 0)))
        self.assertEqual(self.faults([("enter", 1, 3)], deeds=deed_codes(enter="lay p\nquit no")), (("stray", 0, 0),))
        self.assertEqual(self.faults([("enter", 1, 3)], deeds=deed_codes(enter="lay p\ngive h p\nstrike p\nquit no")), (("lent", 0, 0),))
        calls = [("enter", key, 20) for key in (1, 2, 3)]
        self.assertEqual(self.faults(calls, pages=3, deeds=deed_codes(enter="lay p\ngive h p\nquit no")),
                         (("lent", 0, 0), ("lent", 1, 0), ("lent", 2, 0), ("stray", 0, 0), ("stray", 1, 0), ("stray", 2, 0)))

    def test_shown(self):
        four = ids_of(GIVE_FOUR, "", LOOK_FOUR)
        calls = [("enter", 1, 1), ("leave", 1)] * 4 + [("enter", 2, 1)]
        for outside, faults in ((True, (("shown", 0),)), (False, ())):
            store = store_of(ids=four, outside=outside, places=99)
            self.assertEqual(answers(store, *calls[:-1]), ["ok"] * 8)
            self.assertEqual(store.faults(), ())
            self.assertEqual((answers(store, calls[-1]), store.faults()), (["ok"], faults))
            self.assertEqual(answers(store, ("leave", 2)), ["ok"])
            self.assertEqual(store.faults(), ())
        store = store_of(ids=ids_of(GIVE_FOUR, "", LOOK_FOUR.replace("lent and ", "")), outside=True, places=99)
        answers(store, ("enter", 1, 1), ("leave", 1), ("enter", 2, 1), ("leave", 2))
        self.assertEqual(store.faults(), (("shown", 2),))

    def test_shown_is_of_calls_that_gave(self):
        # Behind a change by a move the id of the enter is shown no more, that of the change is the one of the key.
        open_ids = ids_of(GIVE_EIGHT, "", LOOK_EIGHT.replace("lent and a is stamp", "0 < 1"))
        for text, faults in ((MOVE, (("shown", 0),)), (COPY, (("shown", 0),)), (CHANGE, ())):
            store = store_of(ids=open_ids, outside=True, deeds=deed_codes(change=text))
            self.assertEqual(answers(store, ("enter", 1, 3), ("change", 1, 4)), ["ok", "ok"])
            self.assertEqual(store.faults(), faults)
        # An id that was given by a call that quit with no is told nobody.
        store = store_of(ids=open_ids, outside=True, deeds=deed_codes(enter=ENTER + "\nleave\nfree p\nstrike p\nquit no"))
        self.assertEqual((answers(store, ("enter", 1, 3)), store.faults()), (["no"], ()))
        store = store_of(ids=open_ids, outside=True, deeds=deed_codes(enter=ENTER + "\nleave\nfree p\nstrike p"))
        self.assertEqual((answers(store, ("enter", 1, 3)), store.faults()), (["ok"], (("missing", 1), ("shown", 0))))

    def test_order(self):
        store = store_of(60, 9, pages=4, outside=True,
                         ids=ids_of(GIVE_EIGHT, "", LOOK_EIGHT.replace("lent and a is stamp", "not 7 is slot")),
                         put=PUT + "\nholes = holes + 1",
                         deeds=deed_codes(leave=FIND + "leave", change=FIND + "free p"))
        answers(store, ("enter", 5, 3), ("enter", 3, 40), ("enter", 4, 3), ("leave", 5), ("change", 4, 7))
        self.assertEqual(store.faults(), (("page", 0), ("page", 1), ("spoilt", 4), ("lent", 0, 0), ("stray", 0, 0), ("shown", 0)))


class TestBroken(unittest.TestCase):
    def broken(self, calls, **more):
        store = store_of(**more)
        answers(store, *calls)
        self.assertRaises(Broken, store.call, "leave", 1)
        return store.broken

    def test_pages(self):
        self.assertEqual(self.broken([("enter", 1, 1)], put="take empty"), ("pages", "put"))
        self.assertEqual(self.broken([("enter", 1, 1), ("leave", 1)], strike="clear own\na = own.len"), ("pages", "strike"))
        self.assertEqual(self.broken([("enter", 1, 1), ("change", 1, 2)], stretch="lay size"), ("pages", "set"))

    def test_ids(self):
        self.assertEqual(self.broken([("enter", 1, 1), ("leave", 1)], ids=ids_of(look="accept")), ("ids", "look"))
        self.assertEqual(self.broken([("enter", 1, 1), ("leave", 1)], ids=ids_of(look="page = 2\nslot = 0\na = stamp")), ("ids", "look"))

    def test_rooms(self):
        self.assertEqual(self.broken([("enter", 1, 1)], room=room_code(asks="a = 0 - 1\nclass = bits a", top=64)), ("rooms", "ask"))
        self.assertEqual(self.broken([("enter", 1, 9)], room=room_code(asks="class = len", top=8)), ("rooms", "ask"))
        self.assertEqual(self.broken([("enter", 1, 8)], room=room_code(asks="class = len", top=8)), ("rooms", "class"))
        self.assertEqual(self.broken([("enter", 1, 8)], room=room_code("if fit is full\nclass = 0\nelse\nclass = 1\nend", "class = 0",
                                                                       top=0)),
                         ("rooms", "class"))

    def test_deeds(self):
        self.assertEqual(self.broken([("enter", 1, 1)], deeds=deed_codes(enter="enter h")), ("deeds", "enter"))
        self.assertEqual(self.broken([("enter", 1, 1), ("leave", 1)], deeds=deed_codes(leave="look i q")), ("deeds", "leave"))
        self.assertEqual(self.broken([("enter", 1, 1), ("change", 1, 1)], deeds=deed_codes(change="stretch q")), ("deeds", "change"))

    def test_book(self):
        self.assertEqual(self.broken([("enter", 1, 1)], book=book_codes(note="a = sealed a")), ("book", "note"))

    def test_first_one_counts(self):
        # The page play is beyond ahead of what the map is told of it, and the class text ahead of the next step.
        top = room_code("if fit is full\nclass = 0\nelse\nclass = 1\nend", "class = 0", top=0)
        self.assertEqual(self.broken([("enter", 1, 8)], put="a = own.at", room=top), ("pages", "put"))
        store = store_of(room=top)
        one = store.call("enter", 1, 8)
        self.assertEqual((one.told, one.steps, store.broken, pages_of(store)), (None, (), ("rooms", "class"), [(8,)]))
        # The taking back of a long call is beyond: that counts, and not that the store is torn.
        store = store_of(places=1, deeds=deed_codes(leave="free p"))
        self.assertEqual((answers(store, ("enter", 1, 1), ("enter", 2, 1)), store.broken), (["ok", "long"], ("deeds", "leave")))

    def test_stays_as_it_was_left(self):
        store = store_of(put=PUT + "\nholes = 0 - 1")
        one = store.call("enter", 1, 8)
        self.assertEqual((one.told, one.steps, one.number, store.calls), (None, (), 0, 1))
        self.assertEqual((store.record_page(0), store.faults()), (((40, 32, ((32, 8),)), 0), (("stray", 0, 0),)))
        self.assertEqual((store.held_keys(), store.read(1), store.id_of(1)), ((), None, None))

    def test_looks_beyond(self):
        store = store_of(ids=ids_of(GIVE_EIGHT, "", "page = word\nslot = 0\nif stamp is 9\naccept\nend"))
        answers(store, ("enter", 1, 8))
        self.assertEqual((store.read(1), store.looked(1), store.faults()),
                         ((None, None), None, (("lost", 1), ("lent", 0, 0), ("stray", 0, 0))))
        for word in (2, 256, -1):
            self.assertRaises(Beyond, store.looked, word)
        self.assertEqual(store.broken, None)


class TestPlacesThatThereAre(unittest.TestCase):
    def test_limits(self):
        # There are 2 pages of 8 slots each: (40 - 8) // 4.
        store = store_of(ids=ids_of("", "", "page = word // 100\nslot = word mod 100\na = stamp"))
        for word in (0, 7, 100, 107):
            self.assertEqual(store.looked(word), None)
        for word in (8, 108, 200, -1, 99):
            self.assertRaises(Beyond, store.looked, word)

    def test_places_that_were_lent_once(self):
        # The slot that is lent here is none of those that a page of this size has room for.
        store = store_of(put="take next\nslots = slots + 1\nown.at = 0\nown.len = 1",
                         ids=ids_of("word = slot", "", "page = 0\nslot = word\na = stamp"), places=20,
                         room=room_code(asks="class = 0"), pages=1)
        self.assertEqual(answers(store, *[("enter", key, 1) for key in range(12)]), ["ok"] * 12)
        self.assertEqual([store.looked(word) for word in (8, 11)], [None, None])
        self.assertRaises(Beyond, store.looked, 12)
        self.assertEqual(len(store.all_places()), 12)

    def test_great_pages(self):
        size = 10 ** 30
        store = store_of(size, 9, ids=ids_of("word = slot << 4\nword = word + page", "",
                                             "page = word & 15\nslot = word >> 4\nif lent\naccept\nend"))
        self.assertEqual(answers(store, ("enter", 1, size // 2), ("enter", 2, size // 2), ("enter", 3, 7), ("change", 3, size // 3),
                                 ("leave", 1)),
                         ["ok"] * 5)
        self.assertEqual((pages_of(store), store.faults()), ([(None, size // 3), (size // 2,)], ()))
        self.assertEqual((store.read(3), store.looked(10 ** 60)), ((3, size // 3), None))


class TestCursors(unittest.TestCase):
    def filled(self, *keys):
        store = store_of(400, 99)
        answers(store, *[("enter", key, 1) for key in keys])
        return store

    def test_new_cursors(self):
        store = self.filled(10, 20, 30)
        for key, at in ((None, 10), (5, 10), (10, 10), (11, 20), (30, 30), (-10 ** 30 + 1, 10)):
            self.assertEqual(store.cursor_at(store.new_cursor(key)), (at, True))
        self.assertEqual(store.cursor_at(store.new_cursor(key=31)), None)
        self.assertEqual(store.new_cursor(), 7)
        empty = store_of()
        self.assertEqual((empty.cursor_at(empty.new_cursor()), empty.go_on(0)), (None, None))

    def test_going_on(self):
        store = self.filled(10, 20, 30)
        store.new_cursor(15)
        self.assertEqual([store.go_on(number=0), store.cursor_at(number=0), store.go_on(0), store.cursor_at(0), store.go_on(0),
                          store.cursor_at(0)],
                         [20, (20, False), 30, (30, False), None, None])
        answers(store, ("enter", 40, 1))
        self.assertEqual([store.go_on(0), store.cursor_at(0)], [None, None])

    def test_keys_that_enter(self):
        store = self.filled(10, 20)
        store.new_cursor(15)
        answers(store, ("enter", 17, 1), ("enter", 25, 1), ("enter", 5, 1))
        self.assertEqual([store.go_on(0) for _ in range(3)], [20, 25, None])
        store.new_cursor()
        store.go_on(1)
        answers(store, ("enter", 7, 1), ("enter", 3, 1))
        self.assertEqual([store.go_on(1) for _ in range(6)], [7, 10, 17, 20, 25, None])

    def test_keys_that_leave(self):
        store = self.filled(10, 20, 30)
        for key in (None, 10, 20, 30):
            store.new_cursor(key)
        store.go_on(1)
        store.go_on(2)
        answers(store, ("leave", 20), ("leave", 10))
        self.assertEqual([store.cursor_at(k) for k in range(4)], [(30, True)] * 4)
        answers(store, ("enter", 20, 1))
        self.assertEqual([store.go_on(0), store.go_on(0), store.cursor_at(1)], [30, None, (30, True)])
        answers(store, ("leave", 30))
        self.assertEqual([store.cursor_at(k) for k in range(4)], [None] * 4)
        answers(store, ("enter", 30, 1))
        self.assertEqual([store.go_on(k) for k in range(4)], [None] * 4)

    def test_within_a_deed(self):
        # The key leaves, and enters again in the same deed: the cursor went on.
        store = Store(program_of(deeds=deed_codes(change="find h\nleave\nenter h")), 400, 9)
        answers(store, ("enter", 10, 1), ("enter", 20, 1))
        store.new_cursor()
        store.go_on(0)
        answers(store, ("change", 10, 1))
        self.assertEqual((store.held_keys(), store.cursor_at(0)), ((10, 20), (20, True)))

    def test_turns_move_cursors(self):
        store = store_of(400, 9)
        answers(store, ("enter", 10, 1), ("enter", 20, 1))
        store.turn("close")
        store.new_cursor()
        answers(store, ("enter", 15, 1))
        store.go_on(0)
        self.assertEqual(store.go_on(0), 15)
        store.turn("fail")
        self.assertEqual(store.cursor_at(0), (20, True))
        store.turn("undo")
        self.assertEqual(store.cursor_at(0), None)
        store.turn("redo")
        self.assertEqual((store.held_keys(), store.go_on(0)), ((10, 20), None))

    def test_long_calls_move_cursors(self):
        store = store_of(400, 1)
        answers(store, ("enter", 10, 1))
        store.turn("close")
        answers(store, ("enter", 20, 1))
        store.new_cursor(10)
        self.assertEqual(store.go_on(0), 10)
        self.assertEqual((answers(store, ("leave", 10)), store.held_keys(), store.cursor_at(0)), (["long"], (10, 20), (20, True)))

    def test_many_cursors(self):
        store = self.filled(1)
        self.assertEqual([store.new_cursor() for _ in range(40)], list(range(40)))
        with self.assertRaises(TooMany) as caught:
            store.new_cursor(5)
        self.assertEqual((caught.exception.what, caught.exception.many, caught.exception.most), ("cursors", 41, 40))
        self.assertRaises(BadKey, store.new_cursor, "5")

    def test_errors(self):
        store = self.filled(1)
        for key in (10 ** 30, -10 ** 30, True, "1", 1.0, (1,), [1]):
            with self.assertRaises(BadKey) as caught:
                store.new_cursor(key)
            self.assertIs(caught.exception.key, key)
        for number in (0, -1, True, None, "0", 0.0, (0,), []):
            for method in (store.cursor_at, store.go_on):
                with self.assertRaises(NoCursor) as caught:
                    method(number)
                self.assertIs(caught.exception.cursor, number)
        self.assertEqual(store.new_cursor(), 0)
        for number in (1, False, -1):
            self.assertRaises(NoCursor, store.go_on, number)


if __name__ == "__main__":
    unittest.main()
