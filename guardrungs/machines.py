"""Machines: books that tell by a table."""

from guardrungs.bits import is_listed, is_row, is_whole, number_of, spread_groups
from guardrungs.books import Book, check_names, numbered_names
from guardrungs.errors import BadMachine, BadNumber, OtherShape, TooMany


class Machine(Book):
    """A book with a row for each standing, of a pair of answer and next standing for each reading."""

    def __init__(self, inputs, outputs, rows):
        self.inputs = tuple(inputs)
        self.outputs = tuple(outputs)
        check_names(self.inputs + self.outputs)
        self.rows = _told_rows(rows, 1 << len(self.inputs), len(self.outputs))

    @classmethod
    def of_rows(cls, many_inputs, many_outputs, rows):
        """The machine with inputs i0, i1, .. and outputs o0, o1, .."""
        if not is_whole(many_inputs, 0, None):
            raise BadNumber("many_inputs")
        if not is_whole(many_outputs, 0, None):
            raise BadNumber("many_outputs")
        return cls(numbered_names("i", many_inputs), numbered_names("o", many_outputs), rows)

    def start(self):
        """Standing 0."""
        return (0,)

    def step(self, standing, reading):
        """The answer and the next standing."""
        answer, behind = self.rows[standing[0]][number_of(self.checked(reading))]
        return answer, (behind,)

    def step_each(self, standing):
        """For each reading, in counting order, the answer and the next standing."""
        return [(answer, (behind,)) for answer, behind in self.rows[standing[0]]]

    def step_groups(self, standing):
        """For groups of readings, by their first ones, answer, next standing and the column of the readings."""
        told = {}
        for case, pair in enumerate(self.rows[standing[0]]):
            told[pair] = told.get(pair, 0) | (1 << case)
        return [(answer, (behind,), column) for (answer, behind), column in told.items()]

    def __call__(self, standing, reading):
        if not is_whole(standing, 0, len(self.rows) - 1):
            raise BadNumber("standing")
        return self.rows[standing][number_of(self.checked(reading))]

    def __len__(self):
        return len(self.rows)

    def __eq__(self, other):
        return (isinstance(other, Machine) and len(self.inputs) == len(other.inputs)
                and len(self.outputs) == len(other.outputs) and self.rows == other.rows)

    def __add__(self, other):
        if len(self.inputs) + len(other.inputs) > 10:
            raise TooMany(10)
        inputs, outputs = two_names(self.inputs, other.inputs), two_names(self.outputs, other.outputs)
        return Machine(inputs, outputs, _beside_rows(self.rows, other.rows))

    def __mul__(self, other):
        if len(self.outputs) != len(other.inputs):
            raise OtherShape()
        if len(self.inputs) > 10:
            raise TooMany(10)
        return Machine(two_names(self.inputs, ()), two_names((), other.outputs), _row_rows(self.rows, other.rows))


def _told_rows(rows, many, many_outputs):
    """The rows as tuples, if they are a machine's with so many readings and outputs."""
    if not is_listed(rows) or len(rows) == 0:
        raise BadMachine(-1)
    told = []
    for standing, row in enumerate(rows):
        if not is_listed(row) or len(row) != many:
            raise BadMachine(standing)
        for pair in row:
            if not is_listed(pair) or len(pair) != 2 or not is_row(pair[0], many_outputs):
                raise BadMachine(standing)
            if not is_whole(pair[1], 0, len(rows) - 1):
                raise BadMachine(standing)
        told.append(tuple([(tuple(pair[0]), pair[1]) for pair in row]))
    return tuple(told)


def two_names(names, others):
    """The names of two machines that are put together."""
    return [f"a.{name}" for name in names] + [f"b.{name}" for name in others]


def _beside_rows(rows, others):
    """The rows of two machines beside one another."""
    readings = list(range(len(others[0])))
    parts = [[(answer, behind, number) for answer, behind in row for number in readings] for row in rows]
    return _pair_rows(parts, others)


def _row_rows(rows, others):
    """The rows of two machines in a row."""
    return _pair_rows([[((), behind, number_of(answer)) for answer, behind in row] for row in rows], others)


def _pair_rows(parts, others):
    """The rows of two machines, their pairs numbered as met.

    parts has for each standing of the first machine and each reading of the whole what the first machine gives to the
    answer, its next standing, and the number of the reading of the second machine.
    """
    numbers = {(0, 0): 0}
    pairs = [(0, 0)]
    told = []
    while len(told) < len(pairs):
        first, second = pairs[len(told)]
        row = []
        for answer, behind, number in parts[first]:
            other_answer, other_behind = others[second][number]
            pair = (behind, other_behind)
            if pair not in numbers:
                numbers[pair] = len(pairs)
                pairs.append(pair)
            row.append((answer + other_answer, numbers[pair]))
        if len(pairs) > 2000:
            raise TooMany(2000)
        told.append(row)
    return told


def check_inputs(*books):
    """Raise TooMany if one of the books has more inputs than a book whose machine is made may have."""
    for book in books:
        if len(book.inputs) > 10:
            raise TooMany(10)


def book_rows(book):
    """The rows of the book's machine, as lists."""
    numbers = {book.start(): 0}
    standings = [book.start()]
    rows = []
    while len(rows) < len(standings):
        standing = standings[len(rows)]
        groups = []
        for answer, behind, column in book.step_groups(standing):
            if behind not in numbers:
                numbers[behind] = len(standings)
                standings.append(behind)
            groups.append((answer, numbers[behind], column))
        if len(standings) > 2000:
            raise TooMany(2000)
        rows.append(spread_groups(groups, (1 << (1 << len(book.inputs))) - 1))
    return rows


def machine_of(book):
    """The book's machine."""
    check_inputs(book)
    return Machine(book.inputs, book.outputs, book_rows(book))
