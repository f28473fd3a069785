"""A record store with several keys, played step by step: the plain way to ask what a deed does there.

Places are numbers. Keys 1 and 2 have records at places 1 and 2; the handed key is 7, at place 7 where it has a record.
"""

OUTCOMES = {"find": ("there", "none"), "look": ("held", "stale"), "lay": ("laid", "full"), "give": ("given", "out"),
            "free": ("freed", "unlent"), "strike": ("struck", "bare"), "stretch": ("stretched", "full", "bare")}
BAD = ("none", "stale", "full", "out", "unlent", "bare")
PROMISES = ("inside", "whole", "owed", "back", "told")
KEY = 7
LENGTH = 50


class World:
    def __init__(self, kind):
        self.index = {1: "id 1", 2: "id 2"}
        self.homes = {"id 1": 1, "id 2": 2, "any": 99}
        self.records = {1: 10, 2: 20}
        self.lent = {1, 2}
        self.living = {"id 1", "id 2"}
        self.struck = []
        self.doubled = False
        if kind != "enter":
            self.index[KEY] = "id 7"
            self.homes["id 7"] = 7
            self.records[7] = 33
            self.lent.add(7)
            self.living.add("id 7")
        self.given = set(self.living)

    def picture(self):
        return dict(self.index), dict(self.records), set(self.lent)

    def is_right(self):
        if self.doubled:
            return False
        if any(one not in self.living or self.homes[one] not in self.records for one in self.index.values()):
            return False
        if len(set(self.index.values())) < len(self.index):
            return False
        homes = {self.homes[one] for one in self.index.values()}
        return set(self.records) <= homes and self.lent <= homes


def parse(text):
    """The lines as nested lists: (number, words, {outcome: lines})."""
    rows = [row.split(" ") for row in text.split("\n")] if text else []

    def block(at):
        found = []
        while at < len(rows) and rows[at] != ["end"]:
            if rows[at][0] == "on":
                lines, end = block(at + 1)
                found[-1][2][rows[at][1]] = lines
                at = end + 1
            else:
                found.append((at + 1, rows[at], {}))
                at += 1
        return found, at
    return block(0)[0]


class Ended(Exception):
    pass


class Play:
    """A play of parsed lines on a list of outcomes, where lay comes to the place told."""

    def __init__(self, kind, lines, outcomes, place):
        self.world = World(kind)
        self.start = self.world.picture()
        self.kind = kind
        self.registers = dict.fromkeys("hipq")
        self.outcomes = list(outcomes)
        self.place = place
        self.taken = []
        self.honest = True
        self.told = "ok"
        self.ended = "done"
        try:
            self.play(lines)
        except Ended:
            pass

    def play(self, lines):
        for number, words, blocks in lines:
            outcome = self.step(number, words)
            if outcome in blocks:
                self.play(blocks[outcome])

    def need(self, name):
        if self.registers[name] is None:
            self.ended, self.told = "beyond", None
            raise Ended
        return self.registers[name]

    def step(self, number, words):
        word, names = words[0], words[1:]
        world = self.world
        if word == "quit":
            self.told = names[0]
            raise Ended
        if names[:1] == ["="]:
            self.registers[word] = self.registers[names[1]]
        elif word == "leave":
            world.index.pop(KEY, None)
        elif word == "enter":
            world.index[KEY] = self.need(names[0])
        else:
            if word not in ("find", "lay"):
                self.need(names[1] if word == "give" else names[0])
            outcome = self.outcomes.pop(0)
            self.taken.append((number, outcome))
            getattr(self, "step_" + word)(names, outcome)
            return outcome
        return None

    def tell(self, outcome, true_ones):
        if outcome not in true_ones:
            self.honest = False

    def step_find(self, names, outcome):
        there = KEY in self.world.index
        self.tell(outcome, ["there"] if there else ["none"])
        self.registers[names[0]] = self.world.index.get(KEY, "any") if outcome == "there" else None

    def step_look(self, names, outcome):
        shown = self.registers[names[0]]
        self.tell(outcome, ["held"] if shown in self.world.living else ["stale"])
        self.registers[names[1]] = self.world.homes[shown] if outcome == "held" else None

    def step_lay(self, names, outcome):
        place = None
        if outcome == "laid":
            place = self.place
            if place != 100 and (place not in self.world.struck or place in self.world.records):
                self.honest = False
            self.world.records[place] = LENGTH
        self.registers[names[0]] = place

    def step_give(self, names, outcome):
        place = self.registers[names[1]]
        self.registers[names[0]] = None
        if outcome == "given":
            if place in self.world.lent:
                self.world.doubled = True
            self.world.lent.add(place)
            self.world.homes["new"] = place
            self.world.living.add("new")
            self.registers[names[0]] = "new"

    def step_free(self, names, outcome):
        place = self.registers[names[0]]
        self.tell(outcome, ["freed"] if place in self.world.lent else ["unlent"])
        if outcome == "freed":
            self.world.lent.discard(place)
            self.world.living = {one for one in self.world.living if self.world.homes[one] != place}

    def step_strike(self, names, outcome):
        place = self.registers[names[0]]
        self.tell(outcome, ["struck"] if place in self.world.records else ["bare"])
        if outcome == "struck":
            self.world.records.pop(place, None)
            self.world.struck.append(place)

    def step_stretch(self, names, outcome):
        place = self.registers[names[0]]
        self.tell(outcome, ["stretched", "full"] if place in self.world.records else ["bare"])
        if outcome == "stretched":
            self.world.records[place] = LENGTH

    def broken(self):
        found = set()
        if self.ended == "beyond":
            return {"inside"}
        if self.told == "no" and not any(outcome in BAD for _, outcome in self.taken):
            found.add("told")
        if not self.honest:
            return found
        world = self.world
        if not world.is_right():
            found.add("whole")
        if self.told == "no" and world.picture() != self.start:
            found.add("back")
        if self.told == "ok":
            there = KEY in world.index
            length = world.records.get(world.homes[world.index[KEY]]) if there else None
            if there if self.kind == "leave" else length != LENGTH:
                found.add("owed")
        return found


def play(kind, text, outcomes):
    """What a play of a row of outcomes tells: ended, told, taken, honest, broken."""
    lines = parse(text)
    plays = [Play(kind, lines, outcomes, place) for place in (100, 7)]
    broken = set().union(*[one.broken() for one in plays])
    one = plays[0]
    return (one.ended, one.told, tuple(one.taken), any(one.honest for one in plays),
            tuple(promise for promise in PROMISES if promise in broken))


def rows(kind, text):
    """All rows of outcomes of a deed."""
    lines = parse(text)
    words = {}

    def note(some):
        for number, line, blocks in some:
            words[number] = line[0]
            for block in blocks.values():
                note(block)
    note(lines)
    found, work = [], [[]]
    while work:
        row = work.pop()
        try:
            Play(kind, lines, row, 100)
        except IndexError:
            number = next_step(kind, lines, row)
            work += [row + [outcome] for outcome in OUTCOMES[words[number]]]
            continue
        found.append(row)
    return found


class Watched(Play):
    def step(self, number, words):
        self.number = number
        return super().step(number, words)


def next_step(kind, lines, row):
    """The line of the step for which a row has no outcome left."""
    watched = Watched.__new__(Watched)
    try:
        Watched.__init__(watched, kind, lines, row, 100)
    except IndexError:
        return watched.number
    return None
