"""Books of any kinds beside one another, in a row, and bent by wires."""

from guardrungs.bits import is_listed, is_whole
from guardrungs.books import Book, numbered_names
from guardrungs.errors import BadNumber, OtherShape
from guardrungs.machines import two_names


def parts_of(standing):
    """The standings of the two parts."""
    many = standing[0]
    return tuple(standing[1:1 + many]), tuple(standing[1 + many:])


def both_standings(first, second):
    """The standing of the whole."""
    return (len(first),) + tuple(first) + tuple(second)


def crossed(groups, others, with_first):
    """The groups of the whole from those of its parts; with_first tells if its answer has that of the first part."""
    told = []
    for answer, behind, column in groups:
        for other_answer, other_behind, other_column in others:
            both = column & other_column
            if both != 0:
                whole = answer + other_answer if with_first else other_answer
                told.append((whole, both_standings(behind, other_behind), both))
    return told


class Beside(Book):
    """Two books beside one another: each reads its own inputs."""

    def __init__(self, first, second):
        self.first = first
        self.second = second
        self.inputs = tuple(two_names(first.inputs, second.inputs))
        self.outputs = tuple(two_names(first.outputs, second.outputs))

    def start(self):
        """Both stand at their starts."""
        return both_standings(self.first.start(), self.second.start())

    def step(self, standing, reading):
        """The answer and the next standing."""
        return self.groups(standing, self.checked(reading), 1)[0][:2]

    def groups(self, standing, columns, full):
        """For groups of cases answer, next standing and column."""
        first, second = parts_of(standing)
        many = len(self.first.inputs)
        groups = self.first.groups(first, columns[:many], full)
        return crossed(groups, self.second.groups(second, columns[many:], full), True)


class InRow(Book):
    """Two books in a row: the second reads, in the same cycle, the answer of the first."""

    def __init__(self, first, second):
        if len(first.outputs) != len(second.inputs):
            raise OtherShape()
        self.first = first
        self.second = second
        self.inputs = tuple(two_names(first.inputs, ()))
        self.outputs = tuple(two_names((), second.outputs))

    def start(self):
        """Both stand at their starts."""
        return both_standings(self.first.start(), self.second.start())

    def step(self, standing, reading):
        """The answer and the next standing."""
        return self.groups(standing, self.checked(reading), 1)[0][:2]

    def groups(self, standing, columns, full):
        """For groups of cases answer, next standing and column."""
        first, second = parts_of(standing)
        groups = self.first.groups(first, columns, full)
        handed_on = [0] * len(self.second.inputs)
        for answer, _, column in groups:
            handed_on = [told | column * bit for told, bit in zip(handed_on, answer)]
        return crossed(groups, self.second.groups(second, handed_on, full), False)


class Wired(Book):
    """A book of so many inputs that hands those at the places wires, in their order, to another one."""

    def __init__(self, book, many, wires):
        self.book = book
        self.wires = tuple(wires)
        self.inputs = numbered_names("n", many)
        self.outputs = tuple(two_names(book.outputs, ()))

    def start(self):
        """The book's start."""
        return self.book.start()

    def step(self, standing, reading):
        """The answer and the next standing."""
        row = self.checked(reading)
        return self.book.step(standing, [row[place] for place in self.wires])

    def groups(self, standing, columns, full):
        """For groups of cases answer, next standing and column."""
        return self.book.groups(standing, [columns[place] for place in self.wires], full)


class Bent(Book):
    """A book that reads at its input k the bit of the input at the place wires[k]."""

    def __init__(self, book, wires):
        if not is_listed(wires) or len(wires) != len(book.inputs):
            raise BadNumber("wires")
        if not all([is_whole(place, 0, 11) for place in wires]):
            raise BadNumber("wires")
        self.wired = Wired(book, max(wires, default=-1) + 1, wires)
        self.inputs = self.wired.inputs
        self.outputs = self.wired.outputs

    def start(self):
        """The book's start."""
        return self.wired.start()

    def step(self, standing, reading):
        """The answer and the next standing."""
        return self.wired.step(standing, reading)

    def groups(self, standing, columns, full):
        """For groups of cases answer, next standing and column."""
        return self.wired.groups(standing, columns, full)
