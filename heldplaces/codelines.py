"""What the texts of all codes have in common: lines, words, numbers, sums, tests, blocks, ways."""

from heldplaces.errors import BadLine, TooMany

ENDING = ("no", "quit", "accept", "refuse")
MOST_FIGURES = 30
MOST_TERMS = 4
MOST_PARTS = 4


def split_lines(text):
    """The lines of a text; a text without signs has none."""
    if text == "":
        return []
    return text.split("\n")


def is_number(word):
    """Whether a word is a number: up to 30 figures, no zero ahead."""
    if not word.isdigit() or len(word) > MOST_FIGURES:
        return False
    return word == "0" or not word.startswith("0")


def read_term(word, names):
    """A number or a name of a sum; None for any other word."""
    if is_number(word):
        return int(word)
    if word in names:
        return word
    return None


def read_sum(words, names):
    """A sum as a tuple of pairs (1 or -1, term); None for what is no sum."""
    if len(words) % 2 == 0 or len(words) > 2 * MOST_TERMS - 1:
        return None
    terms = []
    met = {}
    sign = 1
    for at, word in enumerate(words):
        if at % 2 == 1:
            if word != "+" and word != "-":
                return None
            sign = 1 if word == "+" else -1
            continue
        term = read_term(word, names)
        if term is None or word in names and word in met:
            return None
        met[word] = True
        terms.append((sign, term))
    return tuple(terms)


def read_part(words, names, phrases):
    """A part of a test as (wanted, sign, left, right); None for what is no part."""
    wanted = words[:1] != ["not"]
    rest = words if wanted else words[1:]
    phrase = " ".join(rest)
    if phrase in phrases:
        return (wanted, phrases[phrase], None, None)
    if len(rest) != 3 or rest[1] not in ("<", "<=", "is") or rest[0] == rest[2]:
        return None
    left, right = read_term(rest[0], names), read_term(rest[2], names)
    if left is None or right is None:
        return None
    return (wanted, rest[1], left, right)


def split_parts(words):
    """The words of the parts of a test."""
    parts = [[]]
    for word in words:
        if word == "and":
            parts.append([])
        else:
            parts[-1].append(word)
    return parts


def read_test(words, names, phrases):
    """A test as a tuple of parts; None for what is no test. Phrases are the parts that compare nothing."""
    rows = split_parts(words)
    if len(rows) > MOST_PARTS:
        return None
    parts = [read_part(row, names, phrases) for row in rows]
    if None in parts:
        return None
    return tuple(parts)


def is_spaced(words):
    """Whether a line has one word or more, with single spaces between them."""
    return "" not in words


def close_block(form, line, stack, jumps):
    """Goes on with the innermost block at an else or end; False if it belongs to none."""
    if not stack:
        return False
    start, middle = stack[-1]
    if form == ("else",):
        if middle != 0:
            return False
        jumps[start] = line + 1
        stack[-1] = (start, line)
        return True
    jumps[start if middle == 0 else middle] = line
    stack.pop()
    return True


def read_forms(rows, read_line):
    """The forms of all lines, and where an if that fails and an else go on."""
    forms = []
    jumps = {}
    stack = []
    for at, row in enumerate(rows):
        words = row.split(" ")
        form = read_line(words) if is_spaced(words) else None
        if form is None:
            raise BadLine(at + 1)
        if form[0] == "if":
            stack.append((at + 1, 0))
        elif form[0] in ("else", "end") and not close_block(form, at + 1, stack, jumps):
            raise BadLine(at + 1)
        forms.append(form)
    if stack:
        raise BadLine(len(rows) + 1)
    return forms, jumps


def read_code(text, read_line, most_lines, most_ifs):
    """The triple (lines, forms, jumps) of a text, or the error that is due ahead of the limits of ways."""
    rows = split_lines(text)
    if len(rows) > most_lines:
        raise TooMany("lines", len(rows), most_lines)
    forms, jumps = read_forms(rows, read_line)
    ifs = len([form for form in forms if form[0] == "if"])
    if ifs > most_ifs:
        raise TooMany("ifs", ifs, most_ifs)
    return rows, forms, jumps


def step_on(forms, jumps, line):
    """The line from this one on that is played: an else met from above goes to its end."""
    while line <= len(forms) and forms[line - 1][0] in ("else", "end"):
        line = jumps[line] if forms[line - 1][0] == "else" else line + 1
    return line


def find_ways(forms, jumps):
    """All ways through the lines, each a tuple of the numbers of the lines on it."""
    found = []
    work = [(1, ())]
    while work:
        start, way = work.pop()
        line = step_on(forms, jumps, start)
        if line > len(forms):
            found.append(way)
            continue
        way = way + (line,)
        word = forms[line - 1][0]
        if word in ENDING:
            found.append(way)
            continue
        if word == "if":
            work.append((jumps[line], way))
        work.append((line + 1, way))
    return found
