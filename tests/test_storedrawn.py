"""[50] to [60]: stores of drawn programs, held against a store that plays the texts line by line."""

import random
import unittest

from drawnprograms import some_page, some_program, some_sizes
from heldplaces.errors import BadLives, BadNumber, Beyond
from heldplaces.program import Program
from heldplaces.store import Store
from heldplaces.together import most_slots, program_is_right, wrong_parts
from samples import GIVE, GIVE_EIGHT, LOOK, LOOK_EIGHT
from storebrute import PlainStore, begun

LENGTHS = [1, 2, 3, 5, 8, 13, 20, 30, 40]


def told_of(one):
    return None if one is None else (one.told, one.steps, one.number)


def some_call(rng):
    word = rng.choice(["enter", "enter", "leave", "change"])
    return word, rng.randint(0, 6), None if word == "leave" else rng.choice(LENGTHS)


def looked(store, word):
    try:
        return store.looked(word)
    except Beyond:
        return "beyond"


class TestAgainstPlainStore(unittest.TestCase):
    def compare(self, store, plain, words):
        self.assertEqual((store.broken, store.calls, store.held_keys()), (plain.broken, plain.calls, tuple(sorted(plain.index))))
        for key in range(-1, 9):
            self.assertEqual(store.read(key), plain.read(key))
            self.assertEqual(store.id_of(key), plain.index[key][0] if key in plain.index else None)
        for word in words:
            self.assertEqual(looked(store, word), plain.looked(word))
        for number, page in enumerate(plain.pages):
            self.assertEqual(store.record_page(number), ((page.size, page.low, page.row), page.holes))
        self.assertRaises(BadNumber, store.record_page, len(plain.pages))
        self.assertEqual(store.all_places(), plain.places)
        self.assertEqual([store.cursor_at(k) for k in range(len(plain.cursors))], [plain.cursor_at(k) for k in range(len(plain.cursors))])
        self.assertEqual(store.faults(), plain.faults())

    def step(self, rng, store, plain, words):
        k = rng.random()
        if k < 0.62:
            call = some_call(rng)
            told = told_of(store.call(*call))
            self.assertEqual(told, plain.call(*call))
            words |= {value for word, _, value in told[1] if word == "give" and value is not None}
        elif k < 0.85:
            word = rng.choice(["close", "close", "fail", "undo", "undo", "redo", "redo"])
            told = store.turn(word)
            self.assertEqual(None if told is None else tuple(map(told_of, told)), plain.turn(word))
        elif k < 0.9 and len(plain.cursors) < 40:
            key = rng.choice([None, 0, 3, 5])
            self.assertEqual(store.new_cursor(key), plain.new_cursor(key))
        elif plain.cursors:
            number = rng.randrange(len(plain.cursors))
            self.assertEqual(store.go_on(number), plain.go_on(number))

    def stores(self, rng, program):
        size, places = some_sizes(rng, program)
        page = some_page(rng, program.page_codes[0].rules, size) if rng.random() < 0.3 else None
        if page is None:
            return Store(program, size, places), PlainStore(program, size, places)
        lives = rng.choice([0, 1, 2, 5])
        try:
            return Store.begun(program, size, places, page, lives), begun(program, size, places, page, lives)
        except BadLives:
            return Store(program, size, places), PlainStore(program, size, places)

    def test_drawn_programs(self):
        rng = random.Random(11)
        met = set()
        for _ in range(500):
            program = some_program(rng, rng.choice([0, 0.05, 0.15, 0.3]))
            store, plain = self.stores(rng, program)
            words = {0, 1, 17}
            for _ in range(rng.randint(5, 40)):
                if store.broken is not None:
                    break
                self.step(rng, store, plain, words)
                self.compare(store, plain, words)
            met |= {store.broken} | {fault[0] for fault in store.faults()}
        self.assertLess(20, len(met))
        self.assertTrue({"page", "missing", "extra", "lost", "spoilt", "alike", "lent", "stray", "shown", ("torn", "leave")} <= met)


class TestRightPrograms(unittest.TestCase):
    """[59]: what a right program's store never has, whatever is called."""

    def drive(self, rng, store, steps):
        for _ in range(steps):
            if store.broken is not None:
                self.assertEqual(store.broken[0], "torn")
                return
            if rng.random() < 0.7:
                before = self.picture(store)
                told = store.call(*some_call(rng)).told
                if told in ("no", "twice", "gone"):
                    self.assertEqual(self.picture(store), before)
            else:
                store.turn(rng.choice(["close", "close", "fail", "undo", "undo", "redo", "redo"]))
            yield store

    def picture(self, store):
        return [(key, store.id_of(key), store.read(key)) for key in store.held_keys()]

    def test_no_faults(self):
        rng = random.Random(12)
        rights = 0
        while rights < 40:
            program = some_program(rng, rng.choice([0, 0.04]), ids=rng.choice([(GIVE_EIGHT, LOOK_EIGHT), (GIVE, LOOK)]), top=255,
                                   room=rng.choice([("class = fit", "class = len"), ("class = fit // 8", "class = len // 8\nlook"),
                                                    ("class = fit // 4", "class = len + 3 // 4")]), free="if stamp is 7\nretire\nend")
            size, places = some_sizes(rng, program)
            if not program_is_right(program, size, places):
                continue
            rights += 1
            page = some_page(rng, program.page_codes[0].rules, size)
            stores = [Store(program, size, places)] + ([] if page is None else [Store.begun(program, size, places, page,
                                                                                            rng.randint(0, 5))])
            for store in stores:
                for one in self.drive(rng, store, 60):
                    self.assertEqual(one.faults(), ())

    def test_shown_alone(self):
        # Right but for stale, and no deed needs that: the faults are of the sort shown alone, and of no sort if nobody outside is told.
        rng = random.Random(14)
        met, rights = set(), 0
        while rights < 12:
            program = some_program(rng, 0, ids=(GIVE_EIGHT, LOOK_EIGHT), free="", none=-1, outside=True, top=255,
                                   room=("class = fit", "class = len"))
            told = Program(program.page_codes, program.ids, program.room_code, program.deeds, program.book_codes, program.most_pages)
            size, places = some_sizes(rng, program)
            if not program_is_right(told, size, places):
                continue
            rights += 1
            self.assertEqual(wrong_parts(program, size, places), ("ids",) if most_slots(program, size) > 0 else ())
            for one in self.drive(rng, Store(told, size, places), 60):
                self.assertEqual(one.faults(), ())
            for one in self.drive(rng, Store(program, size, places), 200):
                met |= {fault[0] for fault in one.faults()}
        self.assertEqual(met, {"shown"})


if __name__ == "__main__":
    unittest.main()
