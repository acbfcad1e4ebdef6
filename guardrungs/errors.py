"""All errors of the package: each one stands directly under RungsError."""


class RungsError(ValueError):
    """The base of all errors of this package."""


class BadRow(RungsError):
    """No row of bits of the wanted length: -1, or the first place of what is no bit."""

    def __init__(self, place):
        super().__init__(f"no row of bits of the wanted length (place {place})")
        self.place = place


class BadName(RungsError):
    """What stands where a name is wanted; it may be anything, so the text does not show it."""

    def __init__(self, name):
        super().__init__("this is not a name that may stand here")
        self.name = name


class BadFormula(RungsError):
    """No formula, or none of the kind that is wanted."""

    def __init__(self):
        super().__init__("no formula of the wanted kind")


class BadText(RungsError):
    """A text that cannot be read: the line from 1, or 0."""

    def __init__(self, line):
        super().__init__(f"the text cannot be read (line {line})")
        self.line = line


class BadBook(RungsError):
    """A book that is refused: the word of the part and its place."""

    def __init__(self, word, place):
        super().__init__(f"the book has a wrong part: {word} at place {place}")
        self.word = word
        self.place = place


class BadMachine(RungsError):
    """A table that is no machine's: -1, or the first wrong standing."""

    def __init__(self, standing):
        super().__init__(f"the machine's table is wrong (standing {standing})")
        self.standing = standing


class BadPlant(RungsError):
    """A plant that is refused: the word of the part and its place."""

    def __init__(self, word, place):
        super().__init__(f"the plant has a wrong part: {word} at place {place}")
        self.word = word
        self.place = place


class BadWish(RungsError):
    """A wish that is refused: the word of the part and its place."""

    def __init__(self, word, place):
        super().__init__(f"the wish has a wrong part: {word} at place {place}")
        self.word = word
        self.place = place


class BadFalling(RungsError):
    """No falling."""

    def __init__(self):
        super().__init__("no falling")


class BadLot(RungsError):
    """No lot of the wanted kind: -1, or the first wrong place."""

    def __init__(self, place):
        super().__init__(f"no lot of the wanted kind (place {place})")
        self.place = place


class BadNumber(RungsError):
    """A number, or a row of numbers, that is out of its range: its word."""

    def __init__(self, word):
        super().__init__(f"out of range: {word}")
        self.word = word


class OtherShape(RungsError):
    """Books or other things that do not fit one another."""

    def __init__(self):
        super().__init__("these do not fit one another")


class NoGuard(RungsError):
    """There is no good guard."""

    def __init__(self):
        super().__init__("there is no good guard")


class HasGuard(RungsError):
    """There is a good guard."""

    def __init__(self):
        super().__init__("there is a good guard")


class NotCarried(RungsError):
    """The chart is not carried."""

    def __init__(self):
        super().__init__("the chart is not carried")


class NoMap(RungsError):
    """There is no map."""

    def __init__(self):
        super().__init__("there is no map")


class Gone(RungsError):
    """What is asked for is not there: its word."""

    def __init__(self, word):
        super().__init__(f"not there: {word}")
        self.word = word


class TooMany(RungsError):
    """More than the limit."""

    def __init__(self, limit):
        super().__init__(f"more than {limit}")
        self.limit = limit
