"""The errors of the package. No message shows a value: values of any kind may be handed in."""


class HeldError(ValueError):
    """What all errors of the package have in common."""


class BadKind(HeldError):
    """A value that is no kind of a code."""

    def __init__(self, kind):
        super().__init__("no such kind")
        self.kind = kind


class BadLine(HeldError):
    """A line that has none of the forms at its place."""

    def __init__(self, line):
        super().__init__("no form of a line")
        self.line = line


class Refused(HeldError):
    """A line that breaks a limit."""

    def __init__(self, line):
        super().__init__("a line beyond a limit")
        self.line = line


class BadPromise(HeldError):
    """A value that is no promise."""

    def __init__(self, promise):
        super().__init__("no such promise")
        self.promise = promise


class BadRule(HeldError):
    """A value that is none for a rule."""

    def __init__(self, what):
        super().__init__("no value for a rule")
        self.what = what


class BadSize(HeldError):
    """A value that is no size."""

    def __init__(self, size):
        super().__init__("no such size")
        self.size = size


class BadCount(HeldError):
    """A value that is no count."""

    def __init__(self, many):
        super().__init__("no such count")
        self.many = many


class BadNumber(HeldError):
    """A value that is no such number."""

    def __init__(self, number):
        super().__init__("no such number")
        self.number = number


class BadPage(HeldError):
    """A value that is no right page."""

    def __init__(self, page):
        super().__init__("no right page")
        self.page = page


class BadCase(HeldError):
    """A value that is no case."""

    def __init__(self, case):
        super().__init__("no such case")
        self.case = case


class BadHanded(HeldError):
    """A value that a page code is not handed."""

    def __init__(self, handed):
        super().__init__("not what is handed")
        self.handed = handed


class BadOutcomes(HeldError):
    """Outcomes that lack one, or have one that cannot be."""

    def __init__(self, word):
        super().__init__("no such outcome")
        self.word = word


class BadKey(HeldError):
    """A value that is no key."""

    def __init__(self, key):
        super().__init__("no such key")
        self.key = key


class BadLength(HeldError):
    """A value that is no length."""

    def __init__(self, length):
        super().__init__("no such length")
        self.length = length


class BadLives(HeldError):
    """A value that is no number of lives."""

    def __init__(self, lives):
        super().__init__("no such lives")
        self.lives = lives


class BadName(HeldError):
    """A value that is none of the words."""

    def __init__(self, name):
        super().__init__("no such word")
        self.name = name


class NoCursor(HeldError):
    """A value that is no cursor's number."""

    def __init__(self, cursor):
        super().__init__("no such cursor")
        self.cursor = cursor


class BadSum(HeldError):
    """A value that is no sum."""

    def __init__(self, text):
        super().__init__("no such sum")
        self.text = text


class OtherKinds(HeldError):
    """Codes of other kinds than a part needs."""

    def __init__(self, part):
        super().__init__("other kinds")
        self.part = part


class OtherRules(HeldError):
    """Codes with other rules than a part needs."""

    def __init__(self, part):
        super().__init__("other rules")
        self.part = part


class OtherFactors(HeldError):
    """Two factors of which none is a multiple of the other."""

    def __init__(self):
        super().__init__("factors that do not go together")


class Beyond(HeldError):
    """A play that is beyond."""

    def __init__(self):
        super().__init__("beyond")


class Broken(HeldError):
    """A part of a store or a book in which a play was beyond."""

    def __init__(self, part):
        super().__init__("broken")
        self.part = part


class TooMany(HeldError):
    """More of something than may be."""

    def __init__(self, what, many, most):
        super().__init__("too many")
        self.what = what
        self.many = many
        self.most = most
