"""All right pages of small sizes, and what page codes do on them: the plain way to ask for all cases."""

from itertools import combinations, permutations

from heldplaces import pageverdicts
from heldplaces.pageplay import play_page
from heldplaces.pagepromises import PROMISES


def layouts(rules, low, size):
    """All tuples of records that lie between low and size, ascending."""
    found = [()]
    if low < size:
        found = list(layouts(rules, low + rules.unit, size))
        for room in range(rules.unit, size - low + 1, rules.unit):
            rest = list(layouts(rules, low + room, size))
            for length in range(room - rules.unit + 1, room + 1):
                found = found + [((low, length),) + more for more in rest]
    return found


def rows(rules, low, size, slots, most_orders):
    for records in layouts(rules, low, size):
        if len(records) > slots:
            continue
        for places in combinations(range(slots), len(records)):
            orders = permutations(places) if most_orders else [places, places[::-1]]
            for order in orders:
                row = [None] * slots
                for slot, record in zip(order, records):
                    row[slot] = record
                yield tuple(row)


def pages(rules, size, most_orders=True):
    """All right pages of a size."""
    if not rules.in_use(size):
        return
    for low in range(0, size + 1, rules.unit):
        if rules.most is not None and low > rules.most:
            break
        slots = 0
        while rules.head + rules.slot * slots <= low:
            seen = set()
            for row in rows(rules, low, size, slots, most_orders):
                if row not in seen:
                    seen.add(row)
                    yield (size, low, row)
            slots += 1


def handed_values(code, page, more):
    """What a code is handed for a page, lengths up to a bit more than the page and its fields may have."""
    kind, (size, _, row) = code.kind, page
    held = [slot for slot, record in enumerate(row) if record is not None]
    most = max(size, code.rules.most or 0) + more
    if kind == "put":
        return list(range(1, most + 1))
    if kind == "strike":
        return held
    if kind == "set":
        return [(slot, length) for slot in held for length in range(1, most + 1)]
    return [None]


def judge(code, size, more=2, most_orders=True):
    """The promises that are broken at a size, with the fewest slots of a case, and the greatest own of a put."""
    broken = {}
    greatest = -1
    for page in pages(code.rules, size, most_orders):
        for handed in handed_values(code, page, more):
            play = play_page(code, page, handed)
            for promise in play.broken:
                broken[promise] = min(broken.get(promise, len(page[2])), len(page[2]))
            if play.ended == "done" and play.own is not None:
                greatest = max(greatest, play.own)
    return broken, greatest


def breaks_by_case(code, promise, size):
    """Whether the case that is made for a size breaks a promise. Long handed lengths are met so, too."""
    page, handed = pageverdicts.case_at(code, promise, size // code.rules.unit)
    return page[0] == size and promise in play_page(code, page, handed).broken


def compare_size(code, size, more, most_orders):
    """Where verdicts and plays differ at a size. A break that no play showed has to be shown by its case."""
    wrong = []
    broken, greatest = judge(code, size, more, most_orders)
    for promise in PROMISES:
        told = pageverdicts.page_breaks(code, promise, size)
        if promise in broken and not told:
            wrong.append((size, promise, "is broken"))
        if told and not breaks_by_case(code, promise, size):
            wrong.append((size, promise, "is not broken"))
        case = pageverdicts.least_page_case(code, promise)
        if told and promise in broken and len(pageverdicts.case_at(
                code, promise, size // code.rules.unit)[0][2]) > broken[promise]:
            wrong.append((size, promise, "has fewer slots"))
        if promise in broken and (case is None or (case[0][0], len(case[0][2])) > (size, broken[promise])):
            wrong.append((size, promise, "has a lesser case", case, broken[promise]))
        if case is not None and promise not in play_page(code, case[0], case[1]).broken:
            wrong.append((size, promise, "has a wrong case", case))
    if code.kind == "put":
        for many in range(0, 5):
            told = pageverdicts.passes(code, many, size)
            if told != (greatest >= many):
                wrong.append((size, "passes", many, greatest))
    return wrong


def compare(code, sizes, more=2, most_orders=True):
    """Where verdicts and plays differ at some sizes: a list of what differs."""
    wrong = []
    for size in sizes:
        wrong = wrong + compare_size(code, size, more, most_orders)
    return wrong
