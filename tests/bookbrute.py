"""All cases of book codes at small sizes, what is owed in them by lists of groups, and texts with slips."""

from heldplaces.bookplay import play_book
from plaincodes import BookPlayer
from samples import BOOK

PROMISES = ("inside", "rows", "fields", "full")
WORDS = ("size", "keep", "next", "many", "more", "own", "mark", "a", "b", "c")
SETTABLE = ("a", "b", "c", "next", "many", "more", "own", "mark")


def compositions(total):
    """All tuples of numbers from 1 on with this sum."""
    if total == 0:
        return [()]
    return [(first,) + rest for first in range(1, total + 1) for rest in compositions(total - first)]


def cases(rules, kind, size):
    """All cases of a kind at a size."""
    if not rules.in_use(size):
        return []
    keep = rules.kept_rows(size)
    found = []
    for place in range(size):
        for rows in range(keep + 1):
            for other in range(rows + 1):
                for done in compositions(rows - other):
                    found += [(size, place, done, more, 0) for more in compositions(other)]
                    if other and kind in ("note", "fail"):
                        found.append((size, place, done, (), other))
    return found


def rows_of(case):
    """How many rows of a case are kept."""
    return sum(case[2]) + sum(case[3]) + case[4]


class Groups:
    """A case as lists of groups, each a list of the places of its rows."""

    def __init__(self, case):
        self.size, self.next, done, more, own = case
        places = [(self.next - sum(done) - own + k) % self.size for k in range(rows_of(case))]
        self.done, places = self.cut(places, done)
        self.own, places = places[:own], places[own:]
        self.more, _ = self.cut(places, more)

    def cut(self, places, lengths):
        found = []
        for length in lengths:
            found.append(places[:length])
            places = places[length:]
        return found, places

    def fields(self):
        many = sum(map(len, self.done)) + len(self.own)
        return (self.next, many, sum(map(len, self.more)), len(self.own), self.own[0] if self.own else self.next)

    def seals(self):
        return {place: len(group) for group in self.done + self.more for place in (group[0], group[-1])}


def owed(kind, case, keep):
    """The rows written, taken back and done again, and the fields that are owed; None for nothing but a no."""
    groups = Groups(case)
    if kind == "note":
        if len(groups.own) == keep:
            return None
        if groups.fields()[1] == keep:
            groups.done.pop(0)
        groups.more = []
        groups.own.append(groups.next)
        groups.next = (groups.next + 1) % groups.size
        return ([groups.own[-1]], [], [], groups.fields())
    if kind == "fail":
        rows, groups.own = groups.own[::-1], []
        groups.next = rows[-1] if rows else groups.next
        return ([], rows, [], groups.fields())
    if kind == "undo":
        if not groups.done:
            return None
        group = groups.done.pop()
        groups.more.insert(0, group)
        groups.next = group[0]
        return ([], group[::-1], [], groups.fields())
    if not groups.more:
        return None
    group = groups.more.pop(0)
    groups.done.append(group)
    groups.next = (group[-1] + 1) % groups.size
    return ([], [], group, groups.fields())


def plain_play(code, case):
    """What a play tells: ended, fields, written, back, again, seals, broken."""
    size, keep = case[0], code.rules.kept_rows(case[0])
    player = BookPlayer(size, keep, Groups(case).fields(), Groups(case).seals())
    word = player.play(code.text)
    ended = {"no": "refused", "quit": "done"}.get(word, word)
    wanted = owed(code.kind, case, keep)
    broken = []
    if ended == "beyond":
        broken.append("inside")
    elif ended == "done" and wanted is not None:
        if (player.written, player.back, player.again) != wanted[:3]:
            broken.append("rows")
        if player.fields() != wanted[3]:
            broken.append("fields")
    elif ended == "done" or wanted is not None or player.changed:
        broken.append("full")
    return (ended, player.fields(), tuple(player.written), tuple(player.back), tuple(player.again), player.sealed, tuple(broken))


def told(play):
    return (play.ended, play.fields, play.written, play.back, play.again, play.seals, play.broken)


def broken(code, top):
    """For each promise the dict from the sizes up to a bound at which it is broken to the fewest rows that break it."""
    found = {promise: {} for promise in PROMISES}
    for size in range(1, top + 1):
        for case in cases(code.rules, code.kind, size):
            for promise in play_book(code, case).broken:
                rows = rows_of(case)
                found[promise][size] = min(found[promise].get(size, rows), rows)
    return found


def some_sum(rng, most=4):
    words = rng.sample(WORDS + (str(rng.randint(0, 4)), str(rng.randint(5, 9))), rng.randint(1, most))
    return words[0] + "".join(rng.choice([" + ", " - "]) + word for word in words[1:])


def some_place(rng):
    return rng.choice(("a", "b", "c", "next", "mark"))


def some_test(rng):
    left, right = rng.sample(WORDS + (str(rng.randint(0, 4)),), 2)
    test = rng.choice(["", "", "not "]) + left + rng.choice([" < ", " <= ", " is "]) + right
    return test + " and " + some_test(rng) if rng.random() < 0.15 else test


def some_line(rng, kind):
    """A line for a kind, an if perhaps, without its end."""
    k = rng.randint(0, 9)
    word = {"fail": "back", "undo": "back", "redo": "again"}.get(kind)
    if k < 3:
        return rng.choice(SETTABLE) + " = " + some_sum(rng)
    if k < 5:
        return rng.choice(SETTABLE) + " = wrap " + some_sum(rng)
    if k == 5 and kind != "fail":
        return rng.choice("abc") + " = sealed " + some_place(rng)
    if k in (6, 7) and word is None:
        return "write " + some_place(rng)
    if k in (6, 7):
        return word + " " + rng.choice([some_sum(rng, 2) + " times", "until " + some_place(rng)])
    return rng.choice(["no", "quit"]) if k == 8 else "if " + some_test(rng)


def some_text(rng, kind):
    """A text of some lines."""
    lines, open_ifs = [], 0
    for _ in range(rng.randint(1, 9)):
        lines.append(some_line(rng, kind))
        open_ifs += lines[-1].startswith("if")
        if open_ifs and rng.random() < 0.3:
            lines.append("end")
            open_ifs -= 1
    return "\n".join(lines + ["end"] * open_ifs)


def slipped(rng, kind):
    """The right text of a kind with one to three slips; it need not have the right forms any more."""
    lines = BOOK[kind].split("\n")
    for _ in range(rng.randint(1, 3)):
        k, at, other = rng.randint(0, 6), rng.randrange(len(lines)), rng.randrange(len(lines))
        if k == 0 and len(lines) > 1:
            del lines[at]
        elif k == 1:
            lines.insert(at, some_line(rng, kind))
            if lines[at].startswith("if"):
                lines.insert(rng.randint(at + 1, len(lines)), "end")
        elif k == 2:
            words = lines[at].split(" ")
            j = rng.randrange(len(words))
            for pool in (("+", "-"), WORDS + ("0", "1", "2"), ("is", "<", "<=")):
                if words[j] in pool:
                    words[j] = rng.choice(pool)
            lines[at] = " ".join(words)
        elif k == 3 and "=" in lines[at]:
            lines[at] += rng.choice([" + 1", " - 1"])
        elif k == 4:
            lines[at] = lines[at].replace("wrap ", "")
        elif k == 5:
            lines[at], lines[other] = lines[other], lines[at]
        else:
            lines.insert(at, lines[other])
    return "\n".join(lines)
