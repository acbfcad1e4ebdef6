"""Books of any kinds beside one another, in a row, and bent by wires."""

from guardrungs.bits import is_listed, is_whole
from guardrungs.books import Book
from guardrungs.errors import BadNumber, OtherShape
from guardrungs.machines import two_names


def _parted(standing):
    """The standings of the two parts."""
    many = standing[0]
    return tuple(standing[1:1 + many]), tuple(standing[1 + many:])


def _joined(first, second):
    """The standing of the whole."""
    return (len(first),) + tuple(first) + tuple(second)


class Beside(Book):
    """Two books beside one another: each reads its own inputs."""

    def __init__(self, first, second):
        self.first = first
        self.second = second
        self.inputs = tuple(two_names(first.inputs, second.inputs))
        self.outputs = tuple(two_names(first.outputs, second.outputs))

    def start(self):
        """Both stand at their starts."""
        return _joined(self.first.start(), self.second.start())

    def step(self, standing, reading):
        """The answer and the next standing."""
        return self.step_cases(standing, self.checked(reading), 1)[0]

    def step_cases(self, standing, columns, full):
        """For each case the answer and the next standing."""
        first, second = _parted(standing)
        many = len(self.first.inputs)
        steps = self.first.step_cases(first, columns[:many], full)
        others = self.second.step_cases(second, columns[many:], full)
        told = []
        for (answer, behind), (other_answer, other_behind) in zip(steps, others):
            told.append((answer + other_answer, _joined(behind, other_behind)))
        return told


class InRow(Book):
    """Two books in a row: the second reads, in the same cycle, the answer of the first."""

    def __init__(self, first, second):
        if len(first.outputs) != len(second.inputs):
            raise OtherShape()
        self.first = first
        self.second = second
        self.inputs = tuple(two_names(first.inputs, ()))
        self.outputs = tuple(two_names((), second.outputs))

    def start(self):
        """Both stand at their starts."""
        return _joined(self.first.start(), self.second.start())

    def step(self, standing, reading):
        """The answer and the next standing."""
        return self.step_cases(standing, self.checked(reading), 1)[0]

    def step_cases(self, standing, columns, full):
        """For each case the answer and the next standing."""
        first, second = _parted(standing)
        steps = self.first.step_cases(first, columns, full)
        handed_on = []
        for place in range(len(self.second.inputs)):
            column = 0
            for case, (answer, _) in enumerate(steps):
                column = column | (answer[place] << case)
            handed_on.append(column)
        others = self.second.step_cases(second, handed_on, full)
        told = []
        for (_, behind), (answer, other_behind) in zip(steps, others):
            told.append((answer, _joined(behind, other_behind)))
        return told


class Bent(Book):
    """A book that reads at its input k the bit of the input at the place wires[k]."""

    def __init__(self, book, wires):
        if not is_listed(wires) or len(wires) != len(book.inputs):
            raise BadNumber("wires")
        if not all([is_whole(place, 0, 11) for place in wires]):
            raise BadNumber("wires")
        self.book = book
        self.wires = tuple(wires)
        self.inputs = tuple([f"n{place}" for place in range(max(wires, default=-1) + 1)])
        self.outputs = tuple(two_names(book.outputs, ()))

    def start(self):
        """The book's start."""
        return self.book.start()

    def step(self, standing, reading):
        """The answer and the next standing."""
        row = self.checked(reading)
        return self.book.step(standing, [row[place] for place in self.wires])

    def step_cases(self, standing, columns, full):
        """For each case the answer and the next standing."""
        return self.book.step_cases(standing, [columns[place] for place in self.wires], full)
