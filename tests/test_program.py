"""[50]: programs."""

import unittest

from heldplaces.errors import BadNumber, OtherKinds, OtherRules
from heldplaces.pagerules import PageRules
from heldplaces.program import Program
from samples import (
    LESS, PLAIN, book_code, book_codes, deed_codes, ids_of, pack_code, program_of, put_code, room_code, set_code, strike_code)

OTHER = PageRules(8, 4, 2)


def parts(**more):
    found = {"page_codes": [put_code(), strike_code(), set_code()], "ids": ids_of(), "room_code": room_code(), "deeds": deed_codes(),
             "book_codes": book_codes(), "most_pages": 2}
    found.update(more)
    return found


class TestPrograms(unittest.TestCase):
    def refused(self, error, part, **more):
        with self.assertRaises(error) as caught:
            Program(**parts(**more))
        self.assertEqual(caught.exception.part, part)

    def test_attributes(self):
        some = parts()
        program = Program(**some)
        self.assertEqual((program.page_codes, program.deeds, program.book_codes),
                         (tuple(some["page_codes"]), tuple(some["deeds"]), tuple(some["book_codes"])))
        self.assertIsInstance(program.page_codes, tuple)
        self.assertTrue(program.ids == some["ids"] and program.room_code == some["room_code"])
        self.assertEqual((program.most_pages, program.outside), (2, False))
        self.assertIs(Program(**parts(outside=True)).outside, True)
        codes = some["page_codes"]
        codes.clear()
        self.assertEqual(len(program.page_codes), 3)
        values = tuple(parts().values())
        told = Program(*values, True)
        self.assertEqual((told.most_pages, told.outside), (2, True))
        Program(**parts(page_codes=tuple(parts()["page_codes"]), deeds=tuple(deed_codes()), book_codes=tuple(book_codes())))

    def test_other_kinds(self):
        put, strike, stretch = parts()["page_codes"]
        for codes in ([], [put, strike], [put, strike, stretch, stretch], [strike, put, stretch], [put, strike, strike],
                      [put, strike, pack_code()], [put, strike, None], [put, strike, "set"], None, book_codes()[:3], deed_codes()):
            self.refused(OtherKinds, "pages", page_codes=codes, deeds=[], book_codes=[], most_pages=0)
        enter, leave, change = deed_codes()
        for deeds in ([], [enter, leave], [leave, enter, change], [enter, leave, change, change], [enter, leave, put],
                      [enter, leave, None], "deeds"):
            self.refused(OtherKinds, "deeds", deeds=deeds, book_codes=[], room_code=room_code(rules=OTHER))
        note, fail, undo, redo = book_codes()
        for codes in ([], [note, fail, undo], [note, fail, redo, undo], [note, fail, undo, redo, redo], [note, fail, undo, put], (), None):
            self.refused(OtherKinds, "book", book_codes=codes, room_code=room_code(rules=OTHER), most_pages=0)

    def test_other_rules(self):
        other = [put_code(rules=OTHER), strike_code(rules=OTHER), set_code(rules=OTHER)]
        for k in range(3):
            codes = parts()["page_codes"]
            codes[k] = other[k]
            self.refused(OtherRules, "pages", page_codes=codes, book_codes=book_codes(LESS)[:3] + [book_code("redo")], most_pages=0)
        self.refused(OtherRules, "rooms", room_code=room_code(rules=OTHER), book_codes=book_codes(LESS)[:3] + [book_code("redo")],
                     most_pages=0)
        self.refused(OtherRules, "rooms", page_codes=other, most_pages=0)
        self.refused(OtherRules, "book", book_codes=book_codes(LESS)[:3] + [book_code("redo")], most_pages=0)
        self.refused(OtherRules, "book", book_codes=[book_code("note", rules=LESS)] + book_codes()[1:])
        Program(**parts(page_codes=other, room_code=room_code(rules=OTHER)))
        Program(**parts(book_codes=book_codes(LESS)))

    def test_most_pages(self):
        for value in (0, -1, 201, 10 ** 30, True, False, None, "2", 2.0, (2,), [2], {}):
            with self.assertRaises(BadNumber) as caught:
                Program(**parts(most_pages=value))
            self.assertIs(caught.exception.number, value)
        for value in (1, 2, 200):
            self.assertEqual(program_of(pages=value).most_pages, value)


if __name__ == "__main__":
    unittest.main()
