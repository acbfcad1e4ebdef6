"""What the outputs of a book hang on."""

from guardrungs.bits import is_bit, is_whole, row_at
from guardrungs.books import Book
from guardrungs.errors import BadNumber
from guardrungs.least import rounds_together, splits, telling_row, ways_to
from guardrungs.machines import book_rows, check_inputs


class Stuck(Book):
    """A book that is handed one bit at one of its inputs, whatever is read there."""

    def __init__(self, book, place, bit):
        if not is_whole(place, 0, len(book.inputs) - 1):
            raise BadNumber("place")
        if not is_bit(bit):
            raise BadNumber("bit")
        self.book = book
        self.place = place
        self.bit = bit
        self.inputs = book.inputs
        self.outputs = book.outputs

    def start(self):
        """The book's start."""
        return self.book.start()

    def step(self, standing, reading):
        """The answer and the next standing."""
        row = self.checked(reading)
        return self.book.step(standing, row[:self.place] + (self.bit,) + row[self.place + 1:])

    def groups(self, standing, columns, full):
        """For groups of cases answer, next standing and column."""
        told = list(columns)
        told[self.place] = full * self.bit
        return self.book.groups(standing, told, full)


def _shown(rows, output):
    """The rows with the bit of this output alone."""
    return [[((answer[output],), behind) for answer, behind in row] for row in rows]


def _twins(inputs, place):
    """Pairs of the numbers of readings of so many inputs that differ at this place alone."""
    bit = 1 << (inputs - 1 - place)
    return [(number, number + bit) for number in range(1 << inputs) if number & bit == 0]


def _twins_unlike(rows, told, twins):
    """True if at some standing twin readings get unlike bits or lead to standings of unlike classes."""
    for row in rows:
        for number, other in twins:
            if row[number][0] != row[other][0] or told[row[number][1]] != told[row[other][1]]:
                return True
    return False


def _check_places(book, output, place):
    check_inputs(book)
    if not is_whole(output, 0, len(book.outputs) - 1):
        raise BadNumber("output")
    if not is_whole(place, 0, len(book.inputs) - 1):
        raise BadNumber("place")


def hangs(book, output, place):
    """True exactly if the output hangs on the input."""
    _check_places(book, output, place)
    rows = _shown(book_rows(book), output)
    return _twins_unlike(rows, splits(rows)[-1], _twins(len(book.inputs), place))


def hanging(book):
    """For each output the places of the inputs that it hangs on."""
    check_inputs(book)
    rows = book_rows(book)
    inputs = len(book.inputs)
    told = []
    for output in range(len(book.outputs)):
        shown = _shown(rows, output)
        parted = splits(shown)[-1]
        told.append(tuple([place for place in range(inputs) if _twins_unlike(shown, parted, _twins(inputs, place))]))
    return tuple(told)


def two_rows(book, output, place):
    """Shortest twins for the input whose last answers differ at the output; None if it hangs not on the input."""
    _check_places(book, output, place)
    inputs = len(book.inputs)
    rows = _shown(book_rows(book), output)
    parted = splits(rows)
    twins = _twins(inputs, place)
    if not _twins_unlike(rows, parted[-1], twins):
        return None
    ways = ways_to(rows)
    # Some shortest twins differ in one reading alone: else others, alike the one or the other, would be as short.
    standing, number, other = _nearest(rows, parted, twins, ways)
    ahead = tuple([row_at(told, inputs) for told in ways[standing]])
    behind = ()
    if rows[standing][number][0] == rows[standing][other][0]:
        behind = telling_row(rows, parted, rows[standing][number][1], rows[standing][other][1], inputs)
    return ahead + (row_at(number, inputs),) + behind, ahead + (row_at(other, inputs),) + behind


def _nearest(rows, parted, twins, ways):
    """A standing and two twin readings by which an output's bits differ soonest."""
    best = None
    for standing, row in enumerate(rows):
        for number, other in twins:
            length = len(ways[standing])
            if row[number][0] == row[other][0]:
                together = rounds_together(parted, row[number][1], row[other][1])
                if together == len(parted):
                    continue
                length += together
            if best is None or length < best[0]:
                best = (length, standing, number, other)
    return best[1:]
