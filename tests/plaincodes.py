"""Plain players of the texts of codes: lines are read as they are played."""


class Over(Exception):
    """A play that is beyond."""


class End(Exception):
    """The end of a play by a line."""


def blocks(rows, at=0):
    """The lines from one on as nested lists, and where they end; an if is (words, lines, lines of else)."""
    found = []
    while at < len(rows) and rows[at] not in (["else"], ["end"]):
        if rows[at][0] != "if":
            found.append(rows[at])
            at += 1
            continue
        words = rows[at][1:]
        yes, at = blocks(rows, at + 1)
        no = []
        if rows[at] == ["else"]:
            no, at = blocks(rows, at + 1)
        found.append((words, yes, no))
        at += 1
    return found, at


class Player:
    """What is common to all codes. Names are those of sums at the moment."""

    def __init__(self, names):
        self.names = dict.fromkeys("abc", 0)
        self.names.update(names)

    def term(self, word):
        return int(word) if word.isdigit() else self.name(word)

    def name(self, word):
        return self.names[word]

    def sum(self, words):
        total = self.term(words[0])
        for sign, word in zip(words[1::2], words[2::2]):
            total = total + self.term(word) if sign == "+" else total - self.term(word)
        return total

    def holds(self, words):
        for part in " ".join(words).split(" and "):
            some = part.split(" ")
            wanted = some[0] != "not"
            if self.part(some if wanted else some[1:]) != wanted:
                return False
        return True

    def part(self, words):
        left, right = self.term(words[0]), self.term(words[2])
        return {"<": left < right, "<=": left <= right, "is": left == right}[words[1]]

    def play(self, text):
        """How a play ends: by the word of its last line, "done" behind all lines, or "beyond"."""
        rows = [row.split(" ") for row in text.split("\n")] if text else []
        try:
            self.play_lines(blocks(rows)[0])
        except Over:
            return "beyond"
        except End as end:
            return end.args[0]
        return "done"

    def play_lines(self, lines):
        for line in lines:
            if isinstance(line, tuple):
                self.play_lines(line[1] if self.holds(line[0]) else line[2])
            elif len(line) == 1 and line[0] in ("no", "quit", "accept", "refuse"):
                raise End(line[0])
            else:
                self.line(line)


class PagePlayer(Player):
    """A page with records as dicts from slots to at and to len."""

    def __init__(self, rules, size, low, row, holes, own, length):
        super().__init__({})
        self.rules, self.size, self.low, self.holes, self.slots = rules, size, low, holes, len(row)
        self.at = {slot: one[0] for slot, one in enumerate(row) if one is not None}
        self.len = {slot: one[1] for slot, one in enumerate(row) if one is not None}
        self.own, self.length = own, length
        self.laid, self.spoilt, self.changed = None, set(), False

    def row(self):
        return tuple((self.at[k], self.len[k]) if k in self.at and k in self.len else None for k in range(self.slots))

    def room(self, length):
        unit = self.rules.unit
        return (length + unit - 1) // unit * unit

    def name(self, word):
        if word in ("own.at", "own.len"):
            there = self.at if word == "own.at" else self.len
            if self.own is None or self.own not in there:
                raise Over
            return there[self.own]
        if word in self.names:
            return self.names[word]
        if word == "edge":
            return self.rules.head + self.rules.slot * self.slots
        if word in ("head", "slot", "unit"):
            return getattr(self.rules, word)
        return self.length if word == "len" else getattr(self, word)

    def part(self, words):
        if words == ["there", "is", "empty"]:
            return None in self.row()
        if words == ["own", "is", "last"]:
            if self.own is None:
                raise Over
            return self.own == self.slots - 1
        return super().part(words)

    def checked(self, number, least=0):
        if number < least or self.rules.most is not None and number > self.rules.most:
            raise Over
        return number

    def line(self, words):
        if words[1:2] == ["="] and words[0] in self.names:
            self.names[words[0]] = self.value(words[2:])
            return
        text = " ".join(words)
        if text in ("slots = slots + 1", "slots = slots - 1"):
            many = self.checked(self.slots + (1 if "+" in words else -1))
            if many < self.slots and self.own != many:
                self.at.pop(many, None)
                self.len.pop(many, None)
            self.slots = many
        elif words[0] in ("low", "holes"):
            setattr(self, words[0], self.checked(self.sum(words[2:])))
        elif words[0] == "take":
            if words[1] == "empty" and None not in self.row():
                raise Over
            self.own = self.row().index(None) if words[1] == "empty" else self.slots
        elif text == "clear own":
            self.at.pop(self.own, None)
            self.len.pop(self.own, None)
        elif words[0] in ("own.at", "own.len"):
            if self.own is None:
                raise Over
            number = self.checked(self.sum(words[2:]), 0 if words[0] == "own.at" else 1)
            (self.at if words[0] == "own.at" else self.len)[self.own] = number
        elif text == "pack":
            self.pack()
        else:
            self.lay(self.sum(words[1:]))
        self.changed = True

    def value(self, words):
        if words[0] == "room":
            return self.room(self.name(words[1]))
        if words[-2:-1] == ["//"]:
            return self.sum(words[:-2]) // int(words[-1])
        return self.sum(words)

    def pack(self):
        end = self.size
        held = [k for k, one in enumerate(self.row()) if one is not None]
        for slot in sorted(held, key=lambda k: (self.at[k], k))[::-1]:
            end -= self.room(self.len[slot])
            self.at[slot] = end

    def lay(self, start):
        if start < 0 or start + self.length > self.size:
            raise Over
        self.laid = start
        written = set(range(start, start + self.length))
        for slot, one in enumerate(self.row()):
            if one is not None and slot != self.own and written & set(range(one[0], one[0] + one[1])):
                self.spoilt.add(slot)

    def is_written(self):
        return self.laid is not None and self.own is not None and self.at.get(self.own) == self.laid


class IdPlayer(Player):
    """Numbers of a give, a free or a look; asked tells (stamp, whether it is lent) of a place, None if there is none."""

    def __init__(self, names, asked=None):
        super().__init__(names)
        self.asked = asked
        self.retired = False

    def place(self):
        return self.asked((self.names["page"], self.names["slot"]))

    def name(self, word):
        if word == "stamp" and self.asked is not None:
            if self.place() is None:
                raise Over
            return self.place()[0]
        return self.names[word]

    def part(self, words):
        if words == ["lent"]:
            return self.place() is not None and self.place()[1]
        return super().part(words)

    def line(self, words):
        if words == ["retire"]:
            self.retired = True
            return
        sign = words[-2]
        if sign not in ("*", "//", "mod", "<<", ">>", "&"):
            self.names[words[0]] = self.sum(words[2:])
            return
        number, by = self.sum(words[2:-2]), int(words[-1])
        self.names[words[0]] = {"*": lambda: number * by, "//": lambda: number // by, "mod": lambda: number % by,
                                "<<": lambda: number * 2 ** by, ">>": lambda: number // 2 ** by,
                                "&": lambda: number % (by + 1)}[sign]()

    def look(self, text):
        """The place that a look accepts, or None."""
        ended = self.play(text)
        if ended == "beyond" or ended == "accept" and self.place() is None:
            raise Over
        return (self.names["page"], self.names["slot"]) if ended == "accept" else None


class RoomPlayer(Player):
    looks = False

    def line(self, words):
        if words == ["look"]:
            self.looks = True
            return
        if words[2] == "bits":
            number = self.sum(words[3:])
            if number < 0:
                raise Over
            self.names[words[0]] = len(bin(number)) - 2 if number else 0
        elif words[-2:-1] == ["//"]:
            self.names[words[0]] = self.sum(words[2:-2]) // int(words[-1])
        else:
            self.names[words[0]] = self.sum(words[2:])


class BookPlayer(Player):
    """A ring of rows; sealed are the lengths that are sealed, by place."""

    FIELDS = ("next", "many", "more", "own", "mark")

    def __init__(self, size, keep, fields, sealed):
        super().__init__(dict(zip(self.FIELDS, fields)))
        self.names.update({"size": size, "keep": keep})
        self.size, self.sealed = size, sealed
        self.written, self.back, self.again = [], [], []
        self.changed = False

    def placed(self, number):
        if number not in range(self.size):
            raise Over
        return number

    def line(self, words):
        if words[1] == "=":
            value = self.value(words[2:])
            if words[0] in self.FIELDS:
                if value not in range(self.size + 1):
                    raise Over
                self.changed = True
            self.names[words[0]] = value
            return
        if words[0] == "write":
            self.written.append(self.placed(self.names[words[1]]))
            self.sealed.pop(self.written[-1], None)
        else:
            self.move(words)
        self.changed = True

    def value(self, words):
        if words[0] == "wrap":
            number = self.sum(words[1:])
            for one in (number, number - self.size, number + self.size):
                if one in range(self.size):
                    return one
            raise Over
        if words[0] == "sealed":
            if self.names[words[1]] not in self.sealed:
                raise Over
            return self.sealed[self.names[words[1]]]
        return self.sum(words)

    def move(self, words):
        self.placed(self.names["next"])
        if words[1] == "until":
            end, times = self.placed(self.names[words[2]]), None
        else:
            end, times = None, self.sum(words[1:-1])
            if times not in range(self.size + 1):
                raise Over
        while times != 0 and self.names["next"] != end:
            if words[0] == "again":
                self.again.append(self.names["next"])
            self.names["next"] = (self.names["next"] + (1 if words[0] == "again" else -1)) % self.size
            if words[0] == "back":
                self.back.append(self.names["next"])
            times = None if times is None else times - 1

    def fields(self):
        return tuple(self.names[name] for name in self.FIELDS)
