"""A store that plays the texts of a program line by line, as the document tells it."""

from plaincodes import BookPlayer, IdPlayer, Over, PagePlayer, RoomPlayer
from deedbrute import parse

WORDS = ("enter", "leave", "change")


class Quit(Exception):
    """The end of a deed."""


class Broken(Exception):
    """A play that is beyond, with its part and kind."""


class PlainBook:
    """The book of a store, or one by itself."""

    def __init__(self, codes, size):
        self.codes = dict(zip(("note", "fail", "undo", "redo"), codes))
        self.size, self.keep = size, codes[0].rules.kept_rows(size)
        self.fields, self.sealed, self.rows, self.broken = (0, 0, 0, 0, 0), {}, {}, None

    def play(self, kind):
        player = BookPlayer(self.size, self.keep, self.fields, self.sealed)
        ended = player.play(self.codes[kind].text)
        self.fields = player.fields()
        if ended == "beyond":
            self.broken = kind
        return ended, player

    def note(self, row):
        ended, player = self.play("note")
        for place in player.written:
            self.rows[place] = row
        return ended != "no"

    def close(self):
        place, many, more, own, _ = self.fields
        if own:
            for at in ((place - own) % self.size, (place - 1) % self.size):
                self.sealed[at] = own
            self.fields = (place, many, more, 0, place)

    def turn(self, word):
        if word != "fail" and self.fields[3] != 0:
            return None
        ended, player = self.play(word)
        places = player.again if word == "redo" else player.back
        return None if ended == "no" else [self.rows.get(place) for place in places]


class PlainPage:
    def __init__(self, size, low, row, holes):
        self.size, self.low, self.row, self.holes = size, low, row, holes
        self.names, self.entry, self.fit = {}, None, None


class PlainStore:
    def __init__(self, program, size, places):
        self.program, self.size = program, size
        self.rules = program.page_codes[0].rules
        self.book = PlainBook(program.book_codes, places)
        self.pages, self.places, self.index, self.wanted = [], {}, {}, {}
        self.cursors, self.calls, self.broken, self.gave = [], 0, None, {}

    # Pages and the map

    def room(self, length):
        return -(-length // self.rules.unit) * self.rules.unit

    def full(self):
        free = self.size - self.rules.head - self.rules.slot
        return max(0, free // self.rules.unit * self.rules.unit)

    def fits(self, page):
        slots = len(page.row) + (None not in page.row)
        rooms = sum(self.room(one[1]) for one in page.row if one is not None)
        free = self.size - self.rules.head - self.rules.slot * slots - rooms
        return min(max(0, free // self.rules.unit * self.rules.unit), self.full())

    def room_class(self, kind, number):
        code = self.program.room_code
        player = RoomPlayer({"size": self.size, "full": self.full(), "top": code.top, "class": 0,
                             "fit" if kind == "class" else "len": number})
        ended = player.play((code.classes if kind == "class" else code.asks).text)
        if ended == "beyond" or not 0 <= player.names["class"] <= code.top:
            raise Broken("rooms", kind)
        return player.names["class"], player.looks

    def tell(self, page, fit):
        code, was = self.program.room_code, page.fit
        page.fit = fit
        if fit == was or 0 < was - fit < code.fall or 0 < fit - was < code.rise:
            return
        page.entry, _ = self.room_class("class", fit if code.when == "behind" else was)

    def play_page(self, which, page, own, length, number):
        code = self.program.page_codes[which]
        player = PagePlayer(self.rules, page.size, page.low, page.row, page.holes, own, length)
        ended = player.play(code.text)
        names = {}
        for slot, one in enumerate(player.row()):
            if one is None:
                continue
            names[slot] = page.names.get(slot)
            if slot == player.own:
                if player.is_written():
                    names[slot] = number
                elif player.changed:
                    names[slot] = None
            elif slot in player.spoilt:
                names[slot] = None
        page.low, page.row, page.holes, page.names = player.low, player.row(), player.holes, names
        return ended, player.own

    def lay(self, length, number):
        if length > self.full():
            return "full", None
        asked, looks = self.room_class("ask", length)
        some = sorted((page.entry, k) for k, page in enumerate(self.pages)
                      if page.entry >= asked and (not looks or page.fit >= length))
        for _, k in some:
            ended, own = self.play_page(0, self.pages[k], None, length, number)
            if ended == "beyond":
                raise Broken("pages", "put")
            self.tell(self.pages[k], self.fits(self.pages[k]))
            if ended != "no":
                return "laid", None if own is None else (k, own)
        if len(self.pages) == self.program.most_pages:
            return "full", None
        page = PlainPage(self.size, self.size, (), 0)
        ended, own = self.play_page(0, page, None, length, number)
        if ended == "no":
            return "full", None
        self.pages.append(page)
        if ended == "beyond":
            raise Broken("pages", "put")
        self.begin(page)
        return "laid", None if own is None else (len(self.pages) - 1, own)

    def begin(self, page):
        page.fit = self.full()
        page.entry, _ = self.room_class("class", page.fit)
        self.tell(page, self.fits(page))

    def record(self, place):
        if place is None or place[0] >= len(self.pages) or place[1] >= len(self.pages[place[0]].row):
            return None
        return self.pages[place[0]].row[place[1]]

    # Ids

    def there(self, place):
        if place in self.places:
            return self.places[place][:2]
        slots = (self.size - self.rules.head) // self.rules.slot
        return (0, False) if 0 <= place[0] < self.program.most_pages and 0 <= place[1] < slots else None

    def look(self, word):
        return IdPlayer({"word": word, "page": -1, "slot": -1}, self.there).look(self.program.ids.look.text)

    def led(self, key):
        try:
            return self.look(self.index[key][0])
        except Over:
            return None

    # Deeds

    def deed(self, word, key, length, number):
        steps, held, gave = [], dict.fromkeys("hipq"), []

        def need(name):
            if held[name] is None:
                raise Broken("deeds", word)
            return held[name]

        def step(words):
            name, rest = words[0], words[1:]
            if name == "quit":
                raise Quit(rest[0])
            if rest[:1] == ["="]:
                held[name] = held[rest[1]]
            elif name == "leave":
                if key in self.index:
                    del self.index[key]
                    self.moved(key)
                steps.append(("leave", None, None))
            elif name == "enter":
                self.index[key] = need(rest[0])
                steps.append(("enter", None, held[rest[0]][0]))
            else:
                outcome, value = self.outcome(name, rest, need, held, key, length, number, gave)
                steps.append((name, outcome, value))
                return outcome
            return None

        def play(lines):
            for _, words, inner in lines:
                outcome = step(words)
                if outcome in inner:
                    play(inner[outcome])

        told = "ok"
        try:
            play(parse(self.program.deeds[WORDS.index(word)].text))
        except Quit as end:
            told = end.args[0]
        except Broken as end:
            self.broken = end.args
            told = None
        return told, tuple(steps), gave

    def outcome(self, name, rest, need, held, key, length, number, gave):
        if name == "find":
            held[rest[0]] = self.index.get(key)
            return ("there", self.index[key][0]) if key in self.index else ("none", None)
        if name == "look":
            try:
                place = self.look(need(rest[0])[0])
            except Over:
                raise Broken("ids", "look") from None
            held[rest[1]] = place
            return "held" if place else "stale", place
        if name == "lay":
            told, held[rest[0]] = self.lay(length, number)
            return told, held[rest[0]]
        if name == "give":
            place = need(rest[1])
            stamp, _, retired = self.places.get(place, (0, False, False))
            if retired:
                held[rest[0]] = None
                return "out", None
            player = IdPlayer({"page": place[0], "slot": place[1], "stamp": stamp, "word": 0})
            player.play(self.program.ids.give.text)
            self.places[place] = (player.names["stamp"], True, False)
            held[rest[0]] = (player.names["word"], number)
            gave.append(player.names["word"])
            return "given", player.names["word"]
        place = need(rest[0])
        if name == "free":
            stamp, lent, _ = self.places.get(place, (0, False, False))
            if not lent:
                return "unlent", place
            player = IdPlayer({"page": place[0], "slot": place[1], "stamp": stamp})
            player.play(self.program.ids.free.text)
            self.places[place] = (player.names["stamp"], False, player.retired)
            return "freed", place
        if self.record(place) is None:
            return "bare", place
        which, kind = (1, "strike") if name == "strike" else (2, "set")
        page = self.pages[place[0]]
        ended, _ = self.play_page(which, page, place[1], length, number)
        if ended == "beyond":
            raise Broken("pages", kind)
        self.tell(page, self.fits(page))
        return ("struck" if which == 1 else "full" if ended == "no" else "stretched"), place

    # Calls

    def made(self, word, key, length):
        number = self.calls
        self.calls += 1
        if (word == "enter") == (key in self.index):
            return ("twice" if word == "enter" else "gone", (), number)
        told, steps, gave = self.deed(word, key, length, number)
        if told == "ok":
            if gave:
                self.gave[number] = gave[0]
            self.wanted.pop(key, None)
            if word != "leave":
                self.wanted[key] = (number, length)
        return told, steps, number

    def beside(self, word, key, length):
        if word != "leave" and length is None:
            self.broken = ("torn", word)
            return None
        told = self.made(word, key, length)
        if told[0] != "ok" and self.broken is None:
            self.broken = ("torn", word)
        return told

    def row_back(self, row):
        word, key, old, _ = row
        return self.beside({"enter": "leave", "leave": "enter", "change": "change"}[word], key, None if word == "enter" else old)

    def call(self, word, key, length=None):
        old = self.wanted[key][1] if key in self.wanted else None
        told = self.made(word, key, length)
        if told[0] == "ok":
            row = (word, key, old, length)
            noted = self.book.note(row)
            if self.book.broken:
                self.broken = ("book", "note")
            elif not noted:
                self.row_back(row)
                return ("long",) + told[1:]
        return told

    def turn(self, word):
        if word == "close":
            return self.book.close()
        rows = self.book.turn(word)
        if self.book.broken:
            self.broken = ("book", word)
            return ()
        if rows is None:
            return None
        found = []
        for row in rows:
            if row is not None and self.broken is None:
                told = self.beside(row[0], row[1], row[3]) if word == "redo" else self.row_back(row)
                found += [] if told is None else [told]
        return tuple(found)

    # What is asked

    def read(self, key):
        if key not in self.index:
            return None
        return self.at_place(self.led(key)) or (None, None)

    def at_place(self, place):
        one = self.record(place)
        return None if one is None else (self.pages[place[0]].names[place[1]], one[1])

    def looked(self, word):
        try:
            return self.at_place(self.look(word))
        except Over:
            return "beyond"

    def right(self, page):
        held = [one for one in page.row if one is not None]
        unit, most = self.rules.unit, self.rules.most
        if not self.rules.head + self.rules.slot * len(page.row) <= page.low <= page.size or page.low % unit:
            return False
        if most is not None and page.low > most or page.holes != page.size - page.low - sum(self.room(n) for _, n in held):
            return False
        for k, (at, length) in enumerate(held):
            if at % unit or at < page.low or at + self.room(length) > page.size:
                return False
            for other, more in held[k + 1:]:
                if at < other + self.room(more) and other < at + self.room(length):
                    return False
        return True

    def faults(self):
        found = [("page", k) for k, page in enumerate(self.pages) if not self.right(page)]
        led = {key: self.led(key) for key in self.index}
        for key in sorted(set(self.index) | set(self.wanted)):
            record = self.record(led.get(key))
            if key not in self.index:
                found.append(("missing", key))
            elif key not in self.wanted:
                found.append(("extra", key))
            elif record is None:
                found.append(("lost", key))
            elif self.at_place(led[key])[0] != self.wanted[key][0]:
                found.append(("spoilt", key))
            elif record[1] != self.wanted[key][1]:
                found.append(("long", key))
        for key in sorted(self.index):
            if any(other < key and self.index[other][0] == self.index[key][0] for other in self.index):
                found.append(("alike", key))
        places = set(led.values())
        found += [("lent",) + place for place in sorted(self.places) if self.places[place][1] and place not in places]
        for k, page in enumerate(self.pages):
            found += [("stray", k, slot) for slot, one in enumerate(page.row) if one is not None and (k, slot) not in places]
        if self.program.outside:
            kept = {number for _, number in self.index.values()}
            for number, word in sorted(self.gave.items()):
                try:
                    if number not in kept and self.look(word) is not None:
                        found.append(("shown", number))
                except Over:
                    pass
        return tuple(found)

    # Cursors: [key, fresh], or None

    def first(self, key):
        found = sorted(one for one in self.index if key is None or one >= key)
        return [found[0], True] if found else None

    def new_cursor(self, key=None):
        self.cursors.append(self.first(key))
        return len(self.cursors) - 1

    def moved(self, key):
        self.cursors = [self.first(key) if one is not None and one[0] == key else one for one in self.cursors]

    def cursor_at(self, number):
        one = self.cursors[number]
        return None if one is None else tuple(one)

    def go_on(self, number):
        one = self.cursors[number]
        if one is not None and not one[1]:
            one = self.first(one[0] + 1)
        if one is not None:
            one[1] = False
        self.cursors[number] = one
        return None if one is None else one[0]


def begun(program, size, places, page, lives):
    """A plain store that begins at a page."""
    store = PlainStore(program, size, places)
    _, low, row = page
    holes = size - low - sum(store.room(one[1]) for one in row if one is not None)
    store.pages.append(PlainPage(size, low, row, holes))
    for slot, one in enumerate(row):
        stamp = 0
        for _ in range(lives):
            give = IdPlayer({"page": 0, "slot": slot, "stamp": stamp, "word": 0})
            give.play(program.ids.give.text)
            free = IdPlayer({"page": 0, "slot": slot, "stamp": give.names["stamp"]})
            free.play(program.ids.free.text)
            stamp = free.names["stamp"]
            assert not free.retired
        if one is None:
            store.places[(0, slot)] = (stamp, False, False)
            continue
        give = IdPlayer({"page": 0, "slot": slot, "stamp": stamp, "word": 0})
        give.play(program.ids.give.text)
        store.places[(0, slot)] = (give.names["stamp"], True, False)
        number = store.calls
        store.calls += 1
        store.index[number] = (give.names["word"], number)
        store.wanted[number] = (number, one[1])
        store.gave[number] = give.names["word"]
        store.pages[0].names[slot] = number
    try:
        store.begin(store.pages[0])
    except Broken as end:
        store.broken = end.args
    return store
