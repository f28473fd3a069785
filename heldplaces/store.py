"""Stores: a program played at a page size and a size of its book."""

from heldplaces.books import Book
from heldplaces.errors import (
    BadCount, BadKey, BadLength, BadLives, BadName, BadNumber, BadPage, BadSize, Beyond, Broken, NoCursor, TooMany)
from heldplaces.rightpages import is_right_page, rooms_of
from heldplaces.storecursors import Cursor, first_key, step_cursor
from heldplaces.storedeeds import DeedCall, play_in_store
from heldplaces.storefaults import find_faults
from heldplaces.storepages import RecordPage, enter_page, name_at, record_at
from heldplaces.storeplaces import HeldId, look_at
from heldplaces.values import is_between, is_from, is_whole

WORDS = ("enter", "leave", "change")
DEEDS = {"enter": 0, "leave": 1, "change": 2}
TURNS = ("close", "fail", "undo", "redo")
MOST_KEY = 999999999999999999999999999999
MOST_LIVES = 1000000000000000000000000000000
MOST_KEYS = 1000
MOST_CURSORS = 40


class CallTold:
    """What a call tells: its answer, the steps that came out, and its number."""

    def __init__(self, told, steps, number):
        self.told = told
        self.steps = steps
        self.number = number


def is_page_size(rules, size):
    """Whether a value is a size that the pages of a store may have."""
    return is_from(size, 1) and rules.in_use(size) and (rules.most is None or size <= rules.most)


def is_book_size(rules, places):
    """Whether a value is a size that the book of a store may have."""
    return is_from(places, 1) and rules.in_use(places)


def check_key(key):
    """A key is an integer of at most 30 figures."""
    if not is_between(key, -MOST_KEY, MOST_KEY):
        raise BadKey(key)


def check_whole(store):
    """No call can be made in a broken store."""
    if store.broken is not None:
        raise Broken(store.broken[0])


def is_length_for(word, length):
    """Whether a value is what a call hands as its length."""
    return length is None if word == "leave" else is_from(length, 1)


def check_call(store, word, key, length):
    """What a call is handed, and whether it can be made."""
    if word not in WORDS:
        raise BadName(word)
    check_key(key)
    if not is_length_for(word, length):
        raise BadLength(length)
    check_whole(store)
    if word == "enter" and len(store.index) >= MOST_KEYS:
        raise TooMany("keys", len(store.index) + 1, MOST_KEYS)


def note_wanted(store, word, made):
    """Notes which key is wanted, and which id was given, behind a deed that quit with ok."""
    if word == "leave":
        store.wanted.pop(made.key, None)
    else:
        store.wanted[made.key] = (made.number, made.length)
    if made.gift is not None:
        store.gifts[made.number] = made.gift


def make_call(store, word, key, length):
    """Makes a call, beside the book."""
    number = store.calls
    store.calls = number + 1
    if (key in store.index) == (word == "enter"):
        return CallTold("twice" if word == "enter" else "gone", (), number)
    made = DeedCall(number, key, length)
    told = play_in_store(store, store.program.deeds[DEEDS[word]], made)
    if told == "ok":
        note_wanted(store, word, made)
    return CallTold(told, tuple(made.steps), number)


def make_beside(store, word, key, length):
    """Makes a call by which a row is taken back or done again; None if its length would be None."""
    told = None
    if word == "leave" or length is not None:
        told = make_call(store, word, key, length)
    if (told is None or told.told != "ok") and store.broken is None:
        store.broken = ("torn", word)
    return told


def turn_row(store, row, is_again):
    """Takes a row back, or does it again."""
    word, key, old, new = row
    if is_again:
        return make_beside(store, word, key, new)
    if word == "enter":
        return make_beside(store, "leave", key, None)
    return make_beside(store, "enter" if word == "leave" else word, key, old)


def note_call(store, told, row):
    """Notes the row of a call that is ok: what the call tells then."""
    is_noted = store.book.note(row)
    if store.book.broken is not None:
        store.broken = ("book", "note")
    if is_noted:
        return told
    turn_row(store, row, False)
    return CallTold("long", told.steps, told.number)


def turn_book(book, word):
    """Turns a book: the rows that come, or None."""
    if word == "close":
        return book.close()
    if word == "fail":
        return book.fail()
    return book.undo() if word == "undo" else book.redo()


def turn_rows(store, rows, is_again):
    """Takes rows back, or does them again, up to the first call that is not ok."""
    found = []
    for row in rows:
        if row is None:
            continue
        told = turn_row(store, row, is_again)
        if told is not None:
            found.append(told)
        if store.broken is not None:
            break
    return tuple(found)


def begin_places(store, row, lives):
    """Lends the places with a record for their next life, and sets the stamps of the other ones."""
    ids = store.program.ids
    for slot, record in enumerate(row):
        if record is None:
            store.stamps[(0, slot)] = (ids.free_stamp(0, slot, lives), False)
            continue
        call = store.calls
        store.calls = call + 1
        word = ids.id_at(0, slot, lives)
        store.stamps[(0, slot)] = (ids.stamp_at(0, slot, lives), True)
        store.index[call] = HeldId(word, call)
        store.wanted[call] = (call, record[1])
        store.gifts[call] = word
        store.pages[0].called[slot] = call


def check_lives(store, row, lives):
    """Lives are a number from 0 to 10 ** 30, and no place is retired before."""
    if not is_between(lives, 0, MOST_LIVES):
        raise BadLives(lives)
    ids = store.program.ids
    if any([ids.free_stamp(0, slot, lives) is None for slot in range(len(row))]):
        raise BadLives(lives)


def record_told(store, place):
    """The pair (name or None, length) of the record at a place, or None if there is none."""
    record = None if place is None else record_at(store, place)
    return None if record is None else (name_at(store, place), record[1])


def check_cursor(store, number):
    """A cursor is told by its number."""
    if not is_between(number, 0, len(store.cursors) - 1):
        raise NoCursor(number)


class Store:
    """A store.

    Stamps has the pair (stamp, whether it is lent) of each place that was lent once, retired the places that are.
    Index has the HeldId of each key, wanted the pair (call, length) of each key that is wanted, and gifts the id that
    each call gave whose deed quit with ok.
    """

    def __init__(self, program, size, places):
        if not is_page_size(program.page_codes[0].rules, size):
            raise BadSize(size)
        if not is_book_size(program.book_codes[0].rules, places):
            raise BadCount(places)
        self.program = program
        self.size = size
        self.book = Book(program.book_codes, places)
        self.pages = []
        self.stamps = {}
        self.retired = {}
        self.index = {}
        self.wanted = {}
        self.gifts = {}
        self.cursors = []
        self.calls = 0
        self.broken = None

    @classmethod
    def begun(cls, program, size, places, page, lives=0):
        """A store that begins at a record page, whose records are held by the keys 0, 1, 2, .."""
        store = cls(program, size, places)
        rules = program.page_codes[0].rules
        if not is_right_page(rules, page) or page[0] != size:
            raise BadPage(page)
        _, low, row = page
        check_lives(store, row, lives)
        store.pages.append(RecordPage(size, low, row, size - low - rooms_of(rules, row)))
        begin_places(store, row, lives)
        enter_page(store, store.pages[0])
        return store

    def call(self, word, key, length=None):
        """Makes a call."""
        check_call(self, word, key, length)
        old = self.wanted.get(key, (None, None))[1]
        told = make_call(self, word, key, length)
        return note_call(self, told, (word, key, old, length)) if told.told == "ok" else told

    def turn(self, word):
        """Closes the open group, takes it back, or undoes or does again a group."""
        if word not in TURNS:
            raise BadName(word)
        check_whole(self)
        rows = turn_book(self.book, word)
        if self.book.broken is not None:
            self.broken = ("book", word)
            return ()
        return None if rows is None else turn_rows(self, rows, word == "redo")

    def held_keys(self):
        """The keys of the index, ascending."""
        return tuple(sorted(list(self.index)))

    def id_of(self, key):
        """The id of a key, or None."""
        found = self.index.get(key)
        return None if found is None else found.word

    def read(self, key):
        """The pair (name or None, length) of the record of a key; None if the index has not the key."""
        if key not in self.index:
            return None
        found = record_told(self, look_at(self, self.index[key].word)[1])
        return (None, None) if found is None else found

    def looked(self, number):
        """The pair (name or None, length) of the record to which an id leads, or None."""
        if not is_whole(number):
            raise BadNumber(number)
        ended, place = look_at(self, number)
        if ended == "beyond":
            raise Beyond()
        return record_told(self, place)

    def record_page(self, number):
        """The pair of a record page (size, low, row) and its holes."""
        if not is_between(number, 0, len(self.pages) - 1):
            raise BadNumber(number)
        page = self.pages[number]
        return ((page.size, page.low, page.row), page.holes)

    def all_places(self):
        """The places that were lent once, with triples (stamp, lent, retired)."""
        return {place: self.stamps[place] + (place in self.retired,) for place in self.stamps}

    def new_cursor(self, key=None):
        """The number of a new cursor, at the first key from one on."""
        if key is not None:
            check_key(key)
        if len(self.cursors) >= MOST_CURSORS:
            raise TooMany("cursors", len(self.cursors) + 1, MOST_CURSORS)
        self.cursors.append(Cursor(first_key(self, key)))
        return len(self.cursors) - 1

    def cursor_at(self, number):
        """The pair of the key of a cursor and whether it is fresh; None if it is past."""
        check_cursor(self, number)
        cursor = self.cursors[number]
        return None if cursor.key is None else (cursor.key, cursor.is_fresh)

    def go_on(self, number):
        """Goes on with a cursor: the key that is met, or None."""
        check_cursor(self, number)
        return step_cursor(self, self.cursors[number])

    def faults(self):
        """The faults, row by row."""
        return find_faults(self)
